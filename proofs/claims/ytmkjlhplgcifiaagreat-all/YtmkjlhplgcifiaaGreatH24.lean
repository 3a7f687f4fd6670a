/-
  The places, in their order.
-/
import Derived.Test.YtmkjlhplgcifiaaGreatH23
import Derived.Test.YtmkjlhplgcifiaaGreatH19
import Derived.Test.YtmkjlhplgcifiaaGreatH13
import Derived.Test.YtmkjlhplgcifiaaGreatH09
import Derived.Test.YtmkjlhplgcifiaaGreatH05
import Derived.Deep.RegionHeld3
namespace Go.Proofs.YtmkjlhplgcifiaaGreat
open Go.ChangeShapes Go.WideShapes Go.ChangeAt Go.RowKit
set_option linter.unusedVariables false
set_option linter.unusedSimpArgs false
attribute [local simp] World.cell?_grow World.cell?_alloc_there
attribute [local go_sem] World.cell?_grow World.cell?_alloc_there eqg_blk std_blk eqg_pod std_pod eqg_sel std_sel eqg_prt std_prt eqg_row std_row
attribute [local go_sem ↓] eql_blk eql_sel neq_sel eql_prt eql_pod met_in1 met_in2 met_re1 met_re2 met_has1 met_has2 met_bl1 met_bl2 neq_row
def encPl (p : Int × Int) : List Value := [.int .i64 p.1, .int .i64 p.2]
def ePl (_B : Nat) (w : World) (b o : Nat) (x : Int × Int) : Prop := w.cell? ⟨b, o, none⟩ = some (.int .i64 x.1) ∧ w.cell? ⟨b, o + 1, none⟩ = some (.int .i64 x.2)
abbrev rdPls (B : Nat) (w : World) (a : Option Addr) (l : List (Int × Int)) : Prop := RdSl B w 2 16 ePl a l
theorem info_pl : (Tryz.prog.info? 99).map (fun i => (i.zero, i.size, i.bytes)) = some (some (.agg #[.int .i64 0, .int .i64 0]), 2, 16) := by kernel_rfl
theorem plist_step : ∀ k : Fin 4, plist.take (2 * (k.val + 1)) = plist.take (2 * k.val) ++ [((k.val : Int), 1), ((k.val : Int), 2)] := by decide
theorem plist_len (k : Nat) (h : k ≤ 4) : (plist.take (2 * k)).length = 2 * k := by rw [List.length_take, show plist.length = 8 from rfl]; omega
theorem own_snoc2 {α : Type} {w : World} {base : Nat} {e : TypeId} {k : Nat} {v : Value} {l : List α} {x y : α} {enc : α → List Value} (h : w.ownsRow base e k v (l.length + 2) (l.flatMap enc ++ (enc x ++ enc y))) : w.ownsRow base e k v (l ++ [x, y]).length ((l ++ [x, y]).flatMap enc) := by
  simpa using h
set_option maxRecDepth 100000 in
theorem places_any (w : World) : Calls Tryz.prog 39 #[] w fun e w' => (∃ a c, e = .returned (.slice a plist.length c) ∧ rdPls w'.heap.size w' a plist) ∧ Below w.heap.size w w' := by
  obtain ⟨i0, hi, iz0, iz1, iz2⟩ := info_parts info_pl
  go_enter Tryz.func39, Tryz.ntmps39
  go_wp2
  go_loopw [1, 3] (fun kv i wr => ∃ k : Nat, k ≤ 4 ∧ i = .int .i64 k ∧ wr.ownsRow w.heap.size 99 2 kv (plist.take (2 * k)).length ((plist.take (2 * k)).flatMap encPl) ∧ Below w.heap.size w wr) (fun _ i _ => 4 - (intOf i).toNat)
  case atStart => exact ⟨0, Nat.zero_le _, rfl, World.ownsRow_nil _ _ _ _, Below.refl _ _⟩
  case round =>
    obtain ⟨k, hk, rfl, hown, hbw⟩ := hrel
    have HO := hid hown
    have hpl := plist_len k hk
    clear hown
    by_cases hlt : k < 4
    · have HS := hid (plist_step ⟨k, hlt⟩)
      have hk1 : (k : Int) < 4 := by omega
      go_wp2_with (at_builtin; refine wpList_append_own _ rfl _ _ 105 rfl w.heap.size 99 i0 _ 2 16 Tryz.underlying105 hi iz0 iz1 iz2 rfl (by decide) _ _ _ rfl (HO.out.alloc _) ⟨wr.heap.size, 0, none⟩ 2 2 [.int .i64 k, .int .i64 1, .int .i64 k, .int .i64 2] rfl rfl (cell_new_list _ [.int .i64 k, .int .i64 1, .int .i64 k, .int .i64 2] _) (fun u hu => by simp at hu; rcases hu with rfl | rfl | rfl | rfl <;> rfl) (by unfold maxLen; omega) (by omega) (by have := hbw.size; simp; omega) ?_; intro v' w3 hown' hg3 _)
      exact ⟨⟨k + 1, by omega, by go_num, by rw [HS.out]; exact own_snoc2 (enc := encPl) (x := ((k : Int), 1)) (y := ((k : Int), 2)) hown', own_below (hbw.alloc hbw.size _) (by have := hbw.size; simp; omega) (HO.out.alloc _) hg3⟩, by simp [intOf]; omega⟩
    · have e : k = 4 := by omega
      subst e
      have ho := HO.out
      rw [show plist.take (2 * 4) = plist from rfl] at ho
      obtain ⟨a, c, rfl, _, hr⟩ := own_rd (α := Int × Int) (k := 2) (l := plist) (enc := encPl) (E := ePl) (bytes := 16) (fun _ => rfl) ho (by decide) (by decide) fun b o x _ _ hc => ⟨hc 0 _ rfl, hc 1 _ rfl⟩
      have HR := hid hr
      clear ho hr
      go_wp2
      go_ret
      exact ⟨⟨a, c, rfl, HR.out⟩, hbw⟩
set_option maxRecDepth 100000 in
theorem clone_any (l : List DRow) (a : Addr) (cap : Nat) (w : World) (hl : rdRows w.heap.size w (some a) l) :
    Calls Tryz.prog 35 #[.slice (some a) l.length cap] w fun e w' => (∃ v, e = .returned v ∧ w'.ownsRow w.heap.size 49 8 v l.length (l.flatMap encRow)) ∧ Below w.heap.size w w' := by
  have HL := hid hl
  have hlen := hl.1
  clear hl
  obtain ⟨i0, hi, iz0, iz1, iz2⟩ := info_parts info_row
  have hq : ∀ w, (binOp .eql 40 (.slice (some a) l.length cap) (.slice none 0 0)).run Tryz.prog w = .ok (.bool false) w := fun w => by
    simp only [binOp]
    simp [Op.equal, Op.maxDepth, Lib.run_equalIn_slice_nil w 9999 _ _ (some a) l.length cap 0 0 Tryz.underlying40]
  go_enter Tryz.func35, Tryz.ntmps35
  go_wp2_with (at_builtin; refine wpList_append_list _ rfl _ _ 40 rfl w.heap.size 49 i0 _ 8 64 Tryz.underlying40 hi iz0 iz1 iz2 rfl (by decide) _ 0 [] rfl (own_built w [] w.heap.size _ 8 0 (Nat.le_refl _) rfl (by unfold maxLen; omega)) (some a) _ cap (l.flatMap encRow) rfl (oflat_len (k := 8) encRow_len _) (news_of (k := 8) encRow_len (by decide) (rdRows.to HL.out bel) (fun _ _ _ => eRow_cells)) (encRows_one _) (by unfold maxLen; omega) (by omega) (by simp) ?_; intro v' w3 hown' hg3)
  go_ret
  refine ⟨⟨v', rfl, by simpa using hown'⟩, ?_⟩
  exact own_below (show Below w.heap.size w (w.alloc (.cells #[] 49)) from bel) (by simp) (own_built w [] w.heap.size _ 8 0 (Nat.le_refl _) rfl (by unfold maxLen; omega)) hg3
end Go.Proofs.YtmkjlhplgcifiaaGreat
namespace Go.Proofs.YtmkjlhplgcifiaaGreat
open Go.ChangeShapes Go.WideShapes Go.ChangeAt Go.RowKit
set_option linter.unusedVariables false
set_option linter.unusedSimpArgs false
attribute [local simp] World.cell?_grow World.cell?_alloc_there
attribute [local go_sem] World.cell?_grow World.cell?_alloc_there eqg_blk std_blk eqg_pod std_pod eqg_sel std_sel eqg_prt std_prt
attribute [local go_sem ↓] eql_blk eql_sel neq_sel eql_prt eql_pod met_in1 met_in2 met_re1 met_re2 met_has1 met_has2 met_bl1 met_bl2
abbrev UpPods := Up 54 4 encPod NNo
theorem upPods_done {base : Nat} {w : World} {v : Value} {l : List DPod} (h : UpPods base w v l) (hl : l.length * 32 ≤ 140737488351232) : ∃ a c, v = .slice a l.length c ∧ l.length ≤ c ∧ rdPods w.heap.size (hide w (low base)) a l := by
  have := Up.done (X := DPod) (k := 4) (enc := encPod) (N := NNo) (d := id) (E := ePod) (bytes := 32) NNo.mono (fun _ => rfl) (by decide) h hl (fun B w b o y _ hc => ⟨hc 0 _ rfl, hc 1 _ rfl, hc 2 _ rfl, hc 3 _ rfl⟩)
  simpa using this
theorem upPorts_done' {base : Nat} {w : World} {v : Value} {l : List DPort} (h : UpPorts base w v l) (hl : l.length * 24 ≤ 140737488351232) : ∃ a c, v = .slice a l.length c ∧ l.length ≤ c ∧ rdPorts w.heap.size (hide w (low base)) a l := by
  have := Up.done (X := DPort) (k := 3) (enc := encPort) (N := NNo) (d := id) (E := ePort) (bytes := 24) NNo.mono (fun _ => rfl) (by decide) h hl (fun B w b o y _ hc => ⟨hc 0 _ rfl, hc 1 _ rfl, hc 2 _ rfl⟩)
  simpa using this
theorem upBlks_done' {base : Nat} {w : World} {v : Value} {l : List DBlk} (h : UpBlks base w v l) (hl : l.length * 16 ≤ 140737488351232) : ∃ a c, v = .slice a l.length c ∧ l.length ≤ c ∧ rdBlks w.heap.size (hide w (low base)) a l := by
  have := Up.done (X := DBlk) (k := 2) (enc := encBlk) (N := NNo) (d := id) (E := eBlk) (bytes := 16) NNo.mono (fun _ => rfl) (by decide) h hl (fun B w b o y _ hc => ⟨hc 0 _ rfl, hc 1 _ rfl⟩)
  simpa using this
theorem ePod_cells {B : Nat} {w : World} {b o : Nat} {x : DPod} (h : ePod B w b o x) : ∀ j u, (encPod x)[j]? = some u → w.cell? ⟨b, o + j, none⟩ = some u
  | 0, u, hj => by simp [encPod] at hj; subst hj; exact h.1
  | 1, u, hj => by simp [encPod] at hj; subst hj; exact h.2.1
  | 2, u, hj => by simp [encPod] at hj; subst hj; exact h.2.2.1
  | 3, u, hj => by simp [encPod] at hj; subst hj; exact h.2.2.2
  | j + 4, u, hj => by simp [encPod] at hj
theorem ePort_cells {B : Nat} {w : World} {b o : Nat} {x : DPort} (h : ePort B w b o x) : ∀ j u, (encPort x)[j]? = some u → w.cell? ⟨b, o + j, none⟩ = some u
  | 0, u, hj => by simp [encPort] at hj; subst hj; exact h.1
  | 1, u, hj => by simp [encPort] at hj; subst hj; exact h.2.1
  | 2, u, hj => by simp [encPort] at hj; subst hj; exact h.2.2
  | j + 3, u, hj => by simp [encPort] at hj
theorem encPods_one (l : List DPod) : ∀ u ∈ l.flatMap encPod, u.oneCell' = true := by
  intro u hu
  obtain ⟨x, _, hx⟩ := List.mem_flatMap.1 hu
  simp [encPod] at hx
  rcases hx with rfl | rfl | rfl | rfl <;> rfl
theorem encPorts_one (l : List DPort) : ∀ u ∈ l.flatMap encPort, u.oneCell' = true := by
  intro u hu
  obtain ⟨x, _, hx⟩ := List.mem_flatMap.1 hu
  simp [encPort] at hx
  rcases hx with rfl | rfl | rfl <;> rfl
theorem rd_none {α : Type} {B : Nat} {w : World} {sz bytes : Nat} {E : Nat → World → Nat → Nat → α → Prop} {l : List α} (h : RdSl B w sz bytes E none l) : l = [] := by
  cases l with
  | nil => rfl
  | cons x t => obtain ⟨b, off, e, _⟩ := h.2 0 x rfl; cases e
set_option maxRecDepth 100000 in
theorem clonePods_any (l : List DPod) (a : Option Addr) (cap : Nat) (w : World) (hl : rdPods w.heap.size w a l) :
    Calls Tryz.prog 58 #[.slice a l.length cap] w fun e w' => (∃ a' c', e = .returned (.slice a' l.length c') ∧ l.length ≤ c' ∧ rdPods w'.heap.size (hide w' (low w.heap.size)) a' l) ∧ Below w.heap.size w w' := by
  have HL := hid hl
  have hlen := hl.1
  obtain ⟨i0, hi, iz0, iz1, iz2⟩ := info_parts info_pod
  cases a with
  | none =>
    have hnil := rd_none hl
    subst hnil
    have hq : ∀ w, (binOp .eql 25 (.slice none 0 cap) (.slice none 0 0)).run Tryz.prog w = .ok (.bool true) w := fun w => by
      simp only [binOp]
      simp [Op.equal, Op.maxDepth, Lib.run_equalIn_slice_nil w 9999 _ _ none 0 cap 0 0 Tryz.underlying25]
    clear hl
    rw [List.length_nil]
    go_enter Tryz.func58, Tryz.ntmps58
    go_wp2
    go_ret
    exact ⟨⟨none, 0, rfl, Nat.le_refl _, rd_nil _ _ _ _ _ _⟩, bel⟩
  | some ad =>
    have hq : ∀ w, (binOp .eql 25 (.slice (some ad) l.length cap) (.slice none 0 0)).run Tryz.prog w = .ok (.bool false) w := fun w => by
      simp only [binOp]
      simp [Op.equal, Op.maxDepth, Lib.run_equalIn_slice_nil w 9999 _ _ (some ad) l.length cap 0 0 Tryz.underlying25]
    clear hl
    go_enter Tryz.func58, Tryz.ntmps58
    go_wp2_with (at_builtin; refine wpList_append_list _ rfl _ _ 25 rfl w.heap.size 54 i0 _ 4 32 Tryz.underlying25 hi iz0 iz1 iz2 rfl (by decide) _ 0 [] rfl (own_built w [] w.heap.size _ 4 0 (Nat.le_refl _) rfl (by unfold maxLen; omega)) (some ad) _ cap (l.flatMap encPod) rfl (oflat_len (k := 4) (fun _ => rfl) _) (news_of (k := 4) (fun _ => rfl) (by decide) (rdPods.to HL.out bel) (fun _ _ _ => ePod_cells)) (encPods_one _) (by unfold maxLen; omega) (by omega) (by simp) ?_; intro v' w3 hown' hg3; obtain ⟨a3, c3, rfl, hc3, hr3⟩ := upPods_done (base := w.heap.size) (w := w3) (v := v') (l := l) ⟨by simpa using hown', fun _ _ => trivial⟩ hlen; have HR3 := hid hr3; clear hr3)
    go_ret
    refine ⟨⟨a3, c3, rfl, hc3, HR3.out⟩, ?_⟩
    exact own_below (show Below w.heap.size w (w.alloc (.cells #[] 54)) from bel) (by simp) (own_built w [] w.heap.size _ 4 0 (Nat.le_refl _) rfl (by unfold maxLen; omega)) hg3
set_option maxRecDepth 100000 in
theorem clonePorts_any (l : List DPort) (a : Option Addr) (cap : Nat) (w : World) (hl : rdPorts w.heap.size w a l) :
    Calls Tryz.prog 132 #[.slice a l.length cap] w fun e w' => (∃ a' c', e = .returned (.slice a' l.length c') ∧ l.length ≤ c' ∧ rdPorts w'.heap.size (hide w' (low w.heap.size)) a' l) ∧ Below w.heap.size w w' := by
  have HL := hid hl
  have hlen := hl.1
  obtain ⟨i0, hi, iz0, iz1, iz2⟩ := info_parts info_port
  cases a with
  | none =>
    have hnil := rd_none hl
    subst hnil
    have hq : ∀ w, (binOp .eql 62 (.slice none 0 cap) (.slice none 0 0)).run Tryz.prog w = .ok (.bool true) w := fun w => by
      simp only [binOp]
      simp [Op.equal, Op.maxDepth, Lib.run_equalIn_slice_nil w 9999 _ _ none 0 cap 0 0 Tryz.underlying62]
    clear hl
    rw [List.length_nil]
    go_enter Tryz.func132, Tryz.ntmps132
    go_wp2
    go_ret
    exact ⟨⟨none, 0, rfl, Nat.le_refl _, rd_nil _ _ _ _ _ _⟩, bel⟩
  | some ad =>
    have hq : ∀ w, (binOp .eql 62 (.slice (some ad) l.length cap) (.slice none 0 0)).run Tryz.prog w = .ok (.bool false) w := fun w => by
      simp only [binOp]
      simp [Op.equal, Op.maxDepth, Lib.run_equalIn_slice_nil w 9999 _ _ (some ad) l.length cap 0 0 Tryz.underlying62]
    clear hl
    go_enter Tryz.func132, Tryz.ntmps132
    go_wp2_with (at_builtin; refine wpList_append_list _ rfl _ _ 62 rfl w.heap.size 109 i0 _ 3 24 Tryz.underlying62 hi iz0 iz1 iz2 rfl (by decide) _ 0 [] rfl (own_built w [] w.heap.size _ 3 0 (Nat.le_refl _) rfl (by unfold maxLen; omega)) (some ad) _ cap (l.flatMap encPort) rfl (oflat_len (k := 3) (fun _ => rfl) _) (news_of (k := 3) (fun _ => rfl) (by decide) (rdPorts.to HL.out bel) (fun _ _ _ => ePort_cells)) (encPorts_one _) (by unfold maxLen; omega) (by omega) (by simp) ?_; intro v' w3 hown' hg3; obtain ⟨a3, c3, rfl, hc3, hr3⟩ := upPorts_done' (base := w.heap.size) (w := w3) (v := v') (l := l) ⟨by simpa using hown', fun _ _ => trivial⟩ hlen; have HR3 := hid hr3; clear hr3)
    go_ret
    refine ⟨⟨a3, c3, rfl, hc3, HR3.out⟩, ?_⟩
    exact own_below (show Below w.heap.size w (w.alloc (.cells #[] 109)) from bel) (by simp) (own_built w [] w.heap.size _ 3 0 (Nat.le_refl _) rfl (by unfold maxLen; omega)) hg3
set_option maxRecDepth 100000 in
theorem cloneBlks_any (l : List DBlk) (a : Option Addr) (cap : Nat) (w : World) (hl : rdBlks w.heap.size w a l) :
    Calls Tryz.prog 160 #[.slice a l.length cap] w fun e w' => (∃ a' c', e = .returned (.slice a' l.length c') ∧ l.length ≤ c' ∧ rdBlks w'.heap.size (hide w' (low w.heap.size)) a' l) ∧ Below w.heap.size w w' := by
  have HL := hid hl
  have hlen := hl.1
  obtain ⟨i0, hi, iz0, iz1, iz2⟩ := info_parts info_blk
  cases a with
  | none =>
    have hnil := rd_none hl
    subst hnil
    have hq : ∀ w, (binOp .eql 67 (.slice none 0 cap) (.slice none 0 0)).run Tryz.prog w = .ok (.bool true) w := fun w => by
      simp only [binOp]
      simp [Op.equal, Op.maxDepth, Lib.run_equalIn_slice_nil w 9999 _ _ none 0 cap 0 0 Tryz.underlying67]
    clear hl
    rw [List.length_nil]
    go_enter Tryz.func160, Tryz.ntmps160
    go_wp2
    go_ret
    exact ⟨⟨none, 0, rfl, Nat.le_refl _, rd_nil _ _ _ _ _ _⟩, bel⟩
  | some ad =>
    have hq : ∀ w, (binOp .eql 67 (.slice (some ad) l.length cap) (.slice none 0 0)).run Tryz.prog w = .ok (.bool false) w := fun w => by
      simp only [binOp]
      simp [Op.equal, Op.maxDepth, Lib.run_equalIn_slice_nil w 9999 _ _ (some ad) l.length cap 0 0 Tryz.underlying67]
    clear hl
    go_enter Tryz.func160, Tryz.ntmps160
    go_wp2_with (at_builtin; refine wpList_append_list _ rfl _ _ 67 rfl w.heap.size 47 i0 _ 2 16 Tryz.underlying67 hi iz0 iz1 iz2 rfl (by decide) _ 0 [] rfl (own_built w [] w.heap.size _ 2 0 (Nat.le_refl _) rfl (by unfold maxLen; omega)) (some ad) _ cap (l.flatMap encBlk) rfl (oflat_len (k := 2) (fun _ => rfl) _) (news_of (k := 2) (fun _ => rfl) (by decide) (rdBlks.to HL.out bel) (fun _ _ _ => eBlk_cells)) (encBlk_one _) (by unfold maxLen; omega) (by omega) (by simp) ?_; intro v' w3 hown' hg3; obtain ⟨a3, c3, rfl, hc3, hr3⟩ := upBlks_done' (base := w.heap.size) (w := w3) (v := v') (l := l) ⟨by simpa using hown', fun _ _ => trivial⟩ hlen; have HR3 := hid hr3; clear hr3)
    go_ret
    refine ⟨⟨a3, c3, rfl, hc3, HR3.out⟩, ?_⟩
    exact own_below (show Below w.heap.size w (w.alloc (.cells #[] 47)) from bel) (by simp) (own_built w [] w.heap.size _ 2 0 (Nat.le_refl _) rfl (by unfold maxLen; omega)) hg3
theorem cpy_take {α β : Type} {l : List β} {ys : List α} {d : α → β} {k : Nat} {y : α} (h : ys.map d = l.take k) (hk : l[k]? = some (d y)) : (ys ++ [y]).map d = l.take (k + 1) := by
  rw [List.map_append, h, List.take_add_one, hk]; rfl
theorem cpy_len {α β : Type} {l : List β} {ys : List α} {d : α → β} {k : Nat} (h : ys.map d = l.take k) : ys.length ≤ k := by
  have h := congrArg List.length h
  simp at h; omega
theorem upPeers_done' {base : Nat} {w : World} {v : Value} {l : List XPeer} (h : UpPeers base w v l) (hl : l.length * 72 ≤ 140737488351232) : ∃ a c, v = .slice a (l.map (·.d)).length c ∧ (l.map (·.d)).length ≤ c ∧ rdPeers w.heap.size (hide w (low base)) a (l.map (·.d)) :=
  Up.done (d := (·.d)) (E := ePeer) (bytes := 72) NPeer.mono (fun _ => rfl) (by decide) h hl (fun B w b o y hn hc => ⟨hc 0 _ rfl, hc 1 _ rfl, hc 2 _ rfl, hc 3 _ rfl, hc 4 _ rfl, hc 5 _ rfl, y.ea, y.ec, hc 6 _ rfl, hn⟩)
theorem upRules_done' {base : Nat} {w : World} {v : Value} {l : List XRule} (h : UpRules base w v l) (hl : l.length * 48 ≤ 140737488351232) : ∃ a c, v = .slice a (l.map (·.d)).length c ∧ (l.map (·.d)).length ≤ c ∧ rdRules w.heap.size (hide w (low base)) a (l.map (·.d)) :=
  Up.done (d := (·.d)) (E := eRule) (bytes := 48) NRule.mono (fun _ => rfl) (by decide) h hl (fun B w b o y hn hc => ⟨⟨y.pa, y.pc, hc 0 _ rfl, hn.1⟩, y.qa, y.qc, hc 1 _ rfl, hn.2⟩)
def NPol (B : Nat) (w : World) (x : RPol) : Prop := x.ok B w
theorem NPol.mono : Mono NPol := fun _ _ _ _ _ hs hB ⟨⟨a, c, h1, h2⟩, a', c', h3, h4⟩ => ⟨⟨a, c, h1, rdRules.sub hs hB h2⟩, a', c', h3, rdRules.sub hs hB h4⟩
abbrev UpPols := Up 59 6 encPol NPol
theorem upPols_done {base : Nat} {w : World} {v : Value} {l : List RPol} (h : UpPols base w v l) (hl : l.length * 80 ≤ 140737488351232) : ∃ a c, v = .slice a (l.map (·.d)).length c ∧ (l.map (·.d)).length ≤ c ∧ rdPols w.heap.size (hide w (low base)) a (l.map (·.d)) :=
  Up.done (d := (·.d)) (E := ePol) (bytes := 80) NPol.mono (fun _ => rfl) (by decide) h hl (fun B w b o y hn hc => by
    obtain ⟨⟨oa, oc, ho, hro⟩, ia, ic, hi, hri⟩ := hn
    exact ⟨hc 0 _ rfl, hc 1 _ rfl, hc 2 _ rfl, hc 3 _ rfl, ⟨oa, oc, by rw [← ho]; exact hc 4 _ rfl, hro⟩, ia, ic, by rw [← hi]; exact hc 5 _ rfl, hri⟩)
set_option maxRecDepth 100000 in
theorem peerCopy_any (x : DPeer) (ea : Option Addr) (ec : Nat) (w : World) (hr : rdBlks w.heap.size w ea x.exc) :
    Calls Tryz.prog 131 #[.agg #[.int .i64 x.kind, .int .i64 x.need, .int .i64 x.ban, .int .i64 x.spaces, .int .i64 x.base, .int .i64 x.bits, .slice ea x.exc.length ec]] w
      fun e w' => (∃ a c, e = .returned (.agg #[.int .i64 x.kind, .int .i64 x.need, .int .i64 x.ban, .int .i64 x.spaces, .int .i64 x.base, .int .i64 x.bits, .slice a x.exc.length c]) ∧ rdBlks w'.heap.size (hide w' (low w.heap.size)) a x.exc) ∧ Below w.heap.size w w' := by
  have HR := hid hr
  clear hr
  go_enter Tryz.func131, Tryz.ntmps131
  go_wp2_with (go_at_call 160; refine (cloneBlks_any x.exc _ _ _ (rdBlks.to HR.out bel)).mono ?_; rintro e w1 ⟨⟨a1, c1, rfl, hc1, hr1⟩, hb1⟩; have HR1 := hid (show rdBlks w1.heap.size (hide w1 (low (w.heap.size + 1 + 1))) a1 x.exc by simpa only [World.size_alloc] using hr1); have HB1 := hid (show Below w.heap.size w w1 from bel); have q0 : w1.heap[w.heap.size]? = some (.cells #[.int .i64 x.kind, .int .i64 x.need, .int .i64 x.ban, .int .i64 x.spaces, .int .i64 x.base, .int .i64 x.bits, .slice ea x.exc.length ec] 69 (0, 0)) := (hb1.block _ (by simp; omega)).trans ((Below.heap_alloc _ _ _ (by simp)).trans (new_heap _ _)); have q1 : w1.heap[w.heap.size + 1]? = some (.cells #[.int .i64 0, .int .i64 0, .int .i64 0, .int .i64 0, .int .i64 0, .int .i64 0, .slice none 0 0] 69 (0, 0)) := (hb1.block _ (by simp)).trans (by have := new_heap (w.alloc (.cells #[.int .i64 x.kind, .int .i64 x.need, .int .i64 x.ban, .int .i64 x.spaces, .int .i64 x.base, .int .i64 x.bits, .slice ea x.exc.length ec] 69)) (.cells #[.int .i64 0, .int .i64 0, .int .i64 0, .int .i64 0, .int .i64 0, .int .i64 0, .slice none 0 0] 69); simpa only [World.size_alloc] using this); have k0 := blk_cell q0; have k1 := blk_cell q1; have f0 := blk_frozen q0; have f1 := blk_frozen q1; clear hr1 hb1 q0 q1)
  refine bodyPost_ret (v := .agg #[.int .i64 x.kind, .int .i64 x.need, .int .i64 x.ban, .int .i64 x.spaces, .int .i64 x.base, .int .i64 x.bits, .slice a1 x.exc.length c1]) (by simp [results, Tryz.results131, go_sem, k0, k1]) rfl ⟨⟨a1, c1, rfl, ?_⟩, ?_⟩
  · refine rdBlks.sub (Sub.trans ?_ (Sub.low (m := w.heap.size + 1 + 1) (by omega))) (by simp) HR1.out
    iterate 8 refine Sub.trans ?_ (Sub.set _ _ (by simp only [low, decide_eq_true_eq]; omega))
    exact Sub.refl _
  · iterate 8 refine Below.setCell ?_ (by simp) _
    exact HB1.out
set_option maxRecDepth 100000 in
theorem mapPeer_any (l : List DPeer) (a : Option Addr) (cap : Nat) (w : World) (hl : rdPeers w.heap.size w a l) :
    Calls Tryz.prog 130 #[.slice a l.length cap, .func (.func 131) #[] #[]] w
      fun e w' => (∃ a c, e = .returned (.slice a l.length c) ∧ l.length ≤ c ∧ rdPeers w'.heap.size (hide w' (low w.heap.size)) a l) ∧ Below w.heap.size w w' := by
  have HL := hid hl
  have hlen := hl.1
  clear hl
  obtain ⟨i0, hi, iz0, iz1, iz2⟩ := info_parts info_peer
  go_enter Tryz.func130, Tryz.ntmps130
  go_wp2
  go_loopw [5, 10] (fun v i wr => ∃ (k : Nat) (ys : List XPeer), k ≤ l.length ∧ i = .int .i64 k ∧ ys.map (·.d) = l.take k ∧ UpPeers w.heap.size wr v ys ∧ Below w.heap.size w wr) (fun _ i _ => l.length - (intOf i).toNat)
  case atStart => exact ⟨0, [], Nat.zero_le _, rfl, rfl, Up.nil _ _, Below.refl _ _⟩
  case round =>
    obtain ⟨k, ys, hk, rfl, hys, hup, hbw⟩ := hrel
    have HYS := hid hys
    have HU := hid hup
    have HBW := hid hbw
    have hyl := cpy_len hys
    have hws := hbw.size
    clear hys hup
    by_cases hlt : k < l.length
    · obtain ⟨x, hxk⟩ : ∃ x, l[k]? = some x := ⟨l[k], by simp [hlt]⟩
      have HX := hid hxk
      obtain ⟨b, off, rfl, hb, c0, c1, c2, c3, c4, c5, ea, ec, c6, hre⟩ := HL.out.2 k x hxk
      have HRE := hid hre
      obtain ⟨hc, hf⟩ := bcell hbw
      clear hxk hre
      go_wp2_with (first
        | (go_at_call 131; go_must (refine (peerCopy_any x ea ec _ (rdBlks.to HRE.out bel)).mono ?_); rintro e w2 ⟨⟨a2, c2', rfl, hr2⟩, hb2⟩; have HB2 := hid (show Below wr.heap.size wr w2 from bel); have HR2 := hid (show rdBlks w2.heap.size (hide w2 (low (wr.heap.size + 1))) a2 x.exc by simpa only [World.size_alloc] using hr2); have HU2 := hid (HU.out.grow NPeer.mono HB2.out); have hs2 := HB2.out.size; clear hr2 hb2)
        | (at_builtin; refine wpList_append_own_at _ rfl _ _ 61 rfl w.heap.size 69 i0 _ 7 72 Tryz.underlying61 hi iz0 iz1 iz2 rfl (by decide) _ _ _ rfl (HU2.out.1.alloc (.cells (encXPeer ⟨x, a2, c2'⟩).toArray 69)) ⟨w2.heap.size, 0, none⟩ 1 1 (encXPeer ⟨x, a2, c2'⟩) rfl rfl (cell_new_list w2 (encXPeer ⟨x, a2, c2'⟩) _) (by intro u hu; simp only [encXPeer, List.mem_cons, List.not_mem_nil, or_false] at hu; rcases hu with rfl | rfl | rfl | rfl | rfl | rfl | rfl <;> rfl) (by unfold maxLen; omega) (by omega) (by rw [World.size_alloc]; omega) ?_; intro v' w3 hown3 hg3 hnil3 hat3))
      have hB3 : Below w2.heap.size w2 (w2.alloc (.cells (encXPeer ⟨x, a2, c2'⟩).toArray 69)) := (Below.refl _ w2).alloc (Nat.le_refl _) _
      refine ⟨⟨k + 1, ys ++ [⟨x, a2, c2'⟩], by omega, by go_num, cpy_take HYS.out HX.out, ?_, ?_⟩, by simp [intOf]; omega⟩
      · exact Up.app NPeer.mono (m := wr.heap.size + 1) (HU2.out.grow NPeer.mono hB3) (by omega) (fun g hg => by have := (HU.out.lt g hg).2; omega) (rdBlks.sub (Sub.grow hB3) hB3.size HR2.out) hown3 hg3 hat3
      · exact own_below (((HBW.out.trans (HB2.out.mono hws))).trans (hB3.mono (by omega))) (by rw [World.size_alloc]; omega) (HU2.out.1.alloc _) hg3
    · go_wp2
      have he : l.take k = l := List.take_of_length_le (by omega)
      obtain ⟨a2, c2, rfl, hc2, hr2⟩ := upPeers_done' HU.out (by omega)
      rw [HYS.out, he] at hc2 hr2 ⊢
      go_ret
      exact ⟨⟨a2, c2, rfl, hc2, hr2⟩, hbw⟩
end Go.Proofs.YtmkjlhplgcifiaaGreat
