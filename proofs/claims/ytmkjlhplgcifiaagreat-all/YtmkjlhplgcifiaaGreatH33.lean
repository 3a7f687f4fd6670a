/-
  What is handed in lies in lists of the caller's own: lists of plain structs.
-/
import Derived.Test.YtmkjlhplgcifiaaGreatH03
import Derived.Test.YtmkjlhplgcifiaaGreatH01
import Derived.Test.YtmkjlhplgcifiaaGreatH05
import Derived.Laws.CopyRow
import Derived.Laws.MakeOwn
import Derived.Laws.Append
import Derived.Lib.SliceRun
namespace Go.Proofs.YtmkjlhplgcifiaaGreat
open Go.ChangeShapes Go.WideShapes Go.ChangeAt Go.RowKit
set_option linter.unusedVariables false
set_option linter.unusedSimpArgs false
attribute [local simp] World.cell?_grow
attribute [local go_sem] World.cell?_grow eqg_blk std_blk eqg_pod std_pod eqg_sel std_sel eqg_prt std_prt
attribute [local go_sem ↓] eql_blk eql_sel neq_sel eql_prt eql_pod
theorem copy_big (P : Program) (w : World) (dT sT ty elem : TypeId) (g dLen dCap : Nat) (a : Addr) (sLen sCap sz : Nat) (cur : Array Value) (t : TypeId) (cs : List Value)
    (hu : P.underlying dT = some (.slice elem)) (hs : (P.info? elem).map (·.size) = some sz)
    (hg : w.heap[g]? = some (.cells cur t (0, 0))) (hn : cs.length = sLen * sz) (hd : sLen ≤ dLen)
    (hsrc : ∀ j v, cs[j]? = some v → w.cell? (a.add j) = some v) (hfit : cs.length ≤ cur.size) (h1 : ∀ v ∈ cs, v.oneCell' = true) :
    (Builtin.copy_ #[dT, sT] ty #[.slice (some ⟨g, 0, none⟩) dLen dCap, .slice (some a) sLen sCap]).run P w =
      .ok (goInt sLen) (w.setRow g (cs ++ cur.toList.drop cs.length).toArray) := by
  have hl := run_loadCells_list (P := P) w a cs hsrc
  have hst := run_storeCells_at P g 0 t cs 0 cur w hg (by simpa using hfit) h1
  cases hq : P.info? elem with
  | none => simp [hq] at hs
  | some i =>
    have hi : i.size = sz := by simpa [hq] using hs
    have hm : sLen.min dLen = sLen := Nat.min_eq_left hd
    have hst2 : (storeCells ⟨g, 0, none⟩ cs).run P w = .ok () (w.setRow g (cs ++ cur.toList.drop cs.length).toArray) := by simpa using hst
    simp [Builtin.copy_, run_underlying hu, Builtin.lenOf, Builtin.firstCells, sizeOf, typeInfo, hq, hi, hm, ← hn, hl, hst2]
theorem setRow_alloc (w : World) (c d : Array Value) (t : TypeId) : (w.alloc (.cells c t)).setRow w.heap.size d = w.alloc (.cells d t) := by
  cases w with
  | mk heap tape drawn os output =>
    show World.mk _ _ _ _ _ = World.mk (heap.push (.cells d t)) _ _ _ _
    congr 1
    apply Array.ext
    · simp [World.alloc]
    · intro k h1 h2
      simp only [World.alloc, Array.getElem_modify, Array.getElem_push]
      by_cases hk : heap.size = k
      · subst hk; simp
      · simp only [if_neg hk]
        split
        · rfl
        · rename_i h3; simp at h2; omega
theorem alloc_heap (w : World) (o : Obj) : (w.alloc o).heap[w.heap.size]? = some o := by
  show (w.heap.push o)[w.heap.size]? = _
  simp
theorem flat_get {α : Type} (f : α → List Value) (sz : Nat) (hf : ∀ x, (f x).length = sz) (hz : 0 < sz) : ∀ (l : List α) (j : Nat) (v : Value), (l.flatMap f)[j]? = some v → ∃ x, l[j / sz]? = some x ∧ (f x)[j % sz]? = some v
  | [], j, v, h => by simp at h
  | x :: t, j, v, h => by
    rw [List.flatMap_cons, List.getElem?_append] at h
    rw [hf x] at h
    split at h
    · rename_i hj
      rw [Nat.div_eq_of_lt hj, Nat.mod_eq_of_lt hj]
      exact ⟨x, by simp, h⟩
    · rename_i hj
      obtain ⟨y, h1, h2⟩ := flat_get f sz hf hz t (j - sz) v h
      have e : j = (j - sz) + sz := by omega
      refine ⟨y, ?_, ?_⟩
      · rw [e, Nat.add_div_right _ hz]; simpa using h1
      · rw [e, Nat.add_mod_right]; exact h2
theorem flat_len {α : Type} (f : α → List Value) (sz : Nat) (hf : ∀ x, (f x).length = sz) : ∀ l : List α, (l.flatMap f).length = l.length * sz
  | [] => by simp
  | x :: t => by rw [List.flatMap_cons, List.length_append, hf, flat_len f sz hf t, List.length_cons, Nat.succ_mul]; omega
theorem flat_at {α : Type} (f : α → List Value) (sz : Nat) (hf : ∀ x, (f x).length = sz) (l : List α) (e : List Value) (i : Nat) (x : α) (h : l[i]? = some x) (r : Nat) (hr : r < sz) : (l.flatMap f ++ e)[i * sz + r]? = (f x)[r]? := by
  induction l generalizing i with
  | nil => simp at h
  | cons y t ih =>
    rw [List.flatMap_cons, List.append_assoc]
    cases i with
    | zero =>
      simp at h
      subst h
      rw [List.getElem?_append_left (by rw [hf]; omega)]
      simp
    | succ i =>
      rw [List.getElem?_append_right (by rw [hf, Nat.succ_mul]; omega)]
      have : (i + 1) * sz + r - (f y).length = i * sz + r := by rw [hf, Nat.succ_mul]; omega
      rw [this]
      exact ih i (by simpa using h)
theorem flat_end {α : Type} (f : α → List Value) (sz : Nat) (hf : ∀ x, (f x).length = sz) (l : List α) (e : List Value) (r : Nat) : (l.flatMap f ++ e)[l.length * sz + r]? = e[r]? := by
  rw [List.getElem?_append_right (by rw [flat_len f sz hf]; omega), flat_len f sz hf]
  congr 1; omega
def bCells (x : DBlk) : List Value := [.int .i64 x.base, .int .i64 x.bits]
def tCells (x : DPort) : List Value := [.int .i64 x.proto, .int .i64 x.lo, .int .i64 x.hi]
def oCells (x : DPod) : List Value := [.int .i64 x.host, .int .i64 x.ip, .int .i64 x.space, .int .i64 x.labels]
theorem und_blk : Tryz.prog.underlying 67 = some (.slice 47) := Tryz.underlying67
theorem siz_blk : (Tryz.prog.info? 47).map (·.size) = some 2 := by kernel_rfl
theorem inf_blk : ∃ i, Tryz.prog.info? 47 = some i ∧ i.zero = some (.agg #[.int .i64 0, .int .i64 0]) ∧ i.size = 2 ∧ i.bytes = 16 := by
  have h0 : (Tryz.prog.info? 47).isSome = true := by kernel_rfl
  have h1 : (Tryz.prog.info? 47).map (·.zero) = some (some (.agg #[.int .i64 0, .int .i64 0])) := by kernel_rfl
  have h2 : (Tryz.prog.info? 47).map (·.bytes) = some 16 := by kernel_rfl
  have h3 := siz_blk
  obtain ⟨i, hi⟩ := Option.isSome_iff_exists.1 h0
  rw [hi] at h1 h2 h3
  exact ⟨i, hi, by simpa using h1, by simpa using h3, by simpa using h2⟩
theorem make_blk (n : Nat) (w : World) (h : n * 16 ≤ 140737488351232) : ∃ Z : Array Value, Z.size = (n + 1) * 2 ∧
    (Instr.makeSlice 67 (.int .i64 ((n : Int) + 1)) (.int .i64 ((n : Int) + 1))).run Tryz.prog w = .ok (.slice (some ⟨w.heap.size, 0, none⟩) (n + 1) (n + 1)) (w.alloc (.cells Z 47)) := by
  obtain ⟨i, h1, h2, h3, h4⟩ := inf_blk
  have := run_make (P := Tryz.prog) w 67 47 i _ und_blk h1 h2 .i64 .i64 ((n : Int) + 1) ((n : Int) + 1) (by omega) (by omega) (by rw [h4]; omega) (by omega)
  have e : ((n : Int) + 1).toNat = n + 1 := by omega
  rw [h3, e] at this
  exact ⟨_, size_madeCells _ _, this⟩
theorem lens_blk (x : DBlk) : (bCells x).length = 2 := rfl
theorem src_blk (B : Nat) (w : World) (a : Addr) (l : List DBlk) (h : rdBlks B w (some a) l) : ∀ j v, (l.flatMap bCells)[j]? = some v → w.cell? (a.add j) = some v := by
  intro j v hj
  obtain ⟨x, h1, h2⟩ := flat_get bCells 2 lens_blk (by omega) l j v hj
  obtain ⟨b, off, he, hb, h3⟩ := h.2 _ x h1
  cases he
  have ha : (⟨b, off, none⟩ : Addr).add j = ⟨b, off + j / 2 * 2 + j % 2, none⟩ := by
    have : j / 2 * 2 + j % 2 = j := by omega
    unfold Addr.add
    split
    · rename_i h0; subst h0; simp
    · simp only [Addr.mk.injEq, true_and, and_true]; omega
  rw [ha]
  unfold eBlk at h3
  obtain ⟨g0, g1⟩ := h3
  have hlt : j % 2 < 2 := Nat.mod_lt _ (by omega)
  generalize j % 2 = r at h2 hlt
  match r, hlt with
  | 0, _ => simp [bCells] at h2; subst h2; exact g0
  | 1, _ => simp [bCells] at h2; subst h2; exact g1
set_option maxHeartbeats 1000000 in
theorem lent_blk (l : List DBlk) (a : Addr) (cap B : Nat) (w : World) (hr : rdBlks B w (some a) l) :
    Calls Tryz.prog 169 #[.slice (some a) l.length cap] w fun e w' => e = .returned (.slice (some ⟨w.heap.size, 0, none⟩) l.length (l.length + 1)) ∧ w' = w.alloc (.cells (l.flatMap bCells ++ ([.int .i64 (-7), .int .i64 7] : List Value)).toArray 47) := by
  have hlen := hr.1
  obtain ⟨Z, hZ, hmk⟩ := make_blk l.length w hlen
  have hfl := flat_len bCells 2 lens_blk l
  have hcp := copy_big Tryz.prog (w.alloc (.cells Z 47)) 67 67 3 47 w.heap.size (l.length + 1) (l.length + 1) a l.length cap 2 Z 47 (l.flatMap bCells) und_blk siz_blk (alloc_heap _ _) hfl (by omega)
    (fun j v hj => by
      have h1 := src_blk B w a l hr j v hj
      rw [World.cell?_alloc_lt _ _ _ (World.block_lt_of_cell? w _ h1)]
      exact h1) (by rw [hfl, hZ, Nat.succ_mul]; omega) (fun v hv => by
      obtain ⟨x, _, hx⟩ := List.mem_flatMap.1 hv
      simp [bCells] at hx
      rcases hx with rfl | rfl <;> rfl)
  rw [setRow_alloc] at hcp
  obtain ⟨C, hC⟩ : ∃ C, C = (l.flatMap bCells ++ Z.toList.drop (l.flatMap bCells).length).toArray := ⟨_, rfl⟩
  rw [← hC] at hcp
  have HCg := hid (show ∀ r, r < 2 → C[l.length * 2 + r]? = some (Z.getD (l.length * 2 + r) default) from fun r hr => by
    rw [hC, List.getElem?_toArray, flat_end bCells 2 lens_blk, List.getElem?_drop, hfl]
    have : l.length * 2 + r < Z.size := by rw [hZ, Nat.succ_mul]; omega
    simp [Array.getD, this])
  have HD := hid (show ((C.setIfInBounds (l.length * 2) (.int .i64 (-7))).setIfInBounds (l.length * 2 + 1) (.int .i64 7)) = (l.flatMap bCells ++ ([.int .i64 (-7), .int .i64 7] : List Value)).toArray by
    rw [hC]
    have hdl : (Z.toList.drop (l.flatMap bCells).length).length = 2 := by rw [List.length_drop, hfl]; simp [hZ, Nat.succ_mul]
    generalize Z.toList.drop (l.flatMap bCells).length = t at hdl
    match t, hdl with
    | [t0, t1], _ =>
      apply Array.ext'
      simp only [Array.toList_setIfInBounds]
      rw [← hfl]
      simp [List.set_append])
  clear hC hZ hr
  have hq : ∀ w, (binOp .eql 67 (.slice (some a) l.length cap) (.slice none 0 0)).run Tryz.prog w = .ok (.bool false) w := fun w => Lib.run_eql_slice_nil w 67 47 _ _ _ _ _ und_blk
  have q0 : C[l.length * 2]? = some (Z.getD (l.length * 2 + 0) default) := HCg.out 0 (by omega)
  have q1 : C[l.length * 2 + 1]? = some (Z.getD (l.length * 2 + 1) default) := HCg.out 1 (by omega)
  go_enter Tryz.func169, Tryz.ntmps169
  go_wp2
  rw [HD.out]
  go_ret
  exact ⟨rfl, rfl⟩
theorem lentNil_blk (cap : Nat) (w : World) :
    Calls Tryz.prog 169 #[.slice none 0 cap] w fun e w' => e = .returned (.slice none 0 0) ∧ w' = w := by
  have hq : ∀ w, (binOp .eql 67 (.slice none 0 cap) (.slice none 0 0)).run Tryz.prog w = .ok (.bool true) w := fun w => Lib.run_eql_slice_nil w 67 47 _ _ _ _ _ und_blk
  go_enter Tryz.func169, Tryz.ntmps169
  go_wp2
  go_ret
  exact ⟨rfl, rfl⟩
theorem und_prt : Tryz.prog.underlying 62 = some (.slice 109) := Tryz.underlying62
theorem siz_prt : (Tryz.prog.info? 109).map (·.size) = some 3 := by kernel_rfl
theorem inf_prt : ∃ i, Tryz.prog.info? 109 = some i ∧ i.zero = some (.agg #[.int .i64 0, .int .i64 0, .int .i64 0]) ∧ i.size = 3 ∧ i.bytes = 24 := by
  have h0 : (Tryz.prog.info? 109).isSome = true := by kernel_rfl
  have h1 : (Tryz.prog.info? 109).map (·.zero) = some (some (.agg #[.int .i64 0, .int .i64 0, .int .i64 0])) := by kernel_rfl
  have h2 : (Tryz.prog.info? 109).map (·.bytes) = some 24 := by kernel_rfl
  have h3 := siz_prt
  obtain ⟨i, hi⟩ := Option.isSome_iff_exists.1 h0
  rw [hi] at h1 h2 h3
  exact ⟨i, hi, by simpa using h1, by simpa using h3, by simpa using h2⟩
theorem make_prt (n : Nat) (w : World) (h : n * 24 ≤ 140737488351232) : ∃ Z : Array Value, Z.size = (n + 1) * 3 ∧
    (Instr.makeSlice 62 (.int .i64 ((n : Int) + 1)) (.int .i64 ((n : Int) + 1))).run Tryz.prog w = .ok (.slice (some ⟨w.heap.size, 0, none⟩) (n + 1) (n + 1)) (w.alloc (.cells Z 109)) := by
  obtain ⟨i, h1, h2, h3, h4⟩ := inf_prt
  have := run_make (P := Tryz.prog) w 62 109 i _ und_prt h1 h2 .i64 .i64 ((n : Int) + 1) ((n : Int) + 1) (by omega) (by omega) (by rw [h4]; omega) (by omega)
  have e : ((n : Int) + 1).toNat = n + 1 := by omega
  rw [h3, e] at this
  exact ⟨_, size_madeCells _ _, this⟩
theorem lens_prt (x : DPort) : (tCells x).length = 3 := rfl
theorem src_prt (B : Nat) (w : World) (a : Addr) (l : List DPort) (h : rdPorts B w (some a) l) : ∀ j v, (l.flatMap tCells)[j]? = some v → w.cell? (a.add j) = some v := by
  intro j v hj
  obtain ⟨x, h1, h2⟩ := flat_get tCells 3 lens_prt (by omega) l j v hj
  obtain ⟨b, off, he, hb, h3⟩ := h.2 _ x h1
  cases he
  have ha : (⟨b, off, none⟩ : Addr).add j = ⟨b, off + j / 3 * 3 + j % 3, none⟩ := by
    have : j / 3 * 3 + j % 3 = j := by omega
    unfold Addr.add
    split
    · rename_i h0; subst h0; simp
    · simp only [Addr.mk.injEq, true_and, and_true]; omega
  rw [ha]
  unfold ePort at h3
  obtain ⟨g0, g1, g2⟩ := h3
  have hlt : j % 3 < 3 := Nat.mod_lt _ (by omega)
  generalize j % 3 = r at h2 hlt
  match r, hlt with
  | 0, _ => simp [tCells] at h2; subst h2; exact g0
  | 1, _ => simp [tCells] at h2; subst h2; exact g1
  | 2, _ => simp [tCells] at h2; subst h2; exact g2
set_option maxHeartbeats 1000000 in
theorem lent_prt (l : List DPort) (a : Addr) (cap B : Nat) (w : World) (hr : rdPorts B w (some a) l) :
    Calls Tryz.prog 146 #[.slice (some a) l.length cap] w fun e w' => e = .returned (.slice (some ⟨w.heap.size, 0, none⟩) l.length (l.length + 1)) ∧ w' = w.alloc (.cells (l.flatMap tCells ++ ([.int .i64 (-7), .int .i64 0, .int .i64 0] : List Value)).toArray 109) := by
  have hlen := hr.1
  obtain ⟨Z, hZ, hmk⟩ := make_prt l.length w hlen
  have hfl := flat_len tCells 3 lens_prt l
  have hcp := copy_big Tryz.prog (w.alloc (.cells Z 109)) 62 62 3 109 w.heap.size (l.length + 1) (l.length + 1) a l.length cap 3 Z 109 (l.flatMap tCells) und_prt siz_prt (alloc_heap _ _) hfl (by omega)
    (fun j v hj => by
      have h1 := src_prt B w a l hr j v hj
      rw [World.cell?_alloc_lt _ _ _ (World.block_lt_of_cell? w _ h1)]
      exact h1) (by rw [hfl, hZ, Nat.succ_mul]; omega) (fun v hv => by
      obtain ⟨x, _, hx⟩ := List.mem_flatMap.1 hv
      simp [tCells] at hx
      rcases hx with rfl | rfl | rfl <;> rfl)
  rw [setRow_alloc] at hcp
  obtain ⟨C, hC⟩ : ∃ C, C = (l.flatMap tCells ++ Z.toList.drop (l.flatMap tCells).length).toArray := ⟨_, rfl⟩
  rw [← hC] at hcp
  have HCg := hid (show ∀ r, r < 3 → C[l.length * 3 + r]? = some (Z.getD (l.length * 3 + r) default) from fun r hr => by
    rw [hC, List.getElem?_toArray, flat_end tCells 3 lens_prt, List.getElem?_drop, hfl]
    have : l.length * 3 + r < Z.size := by rw [hZ, Nat.succ_mul]; omega
    simp [Array.getD, this])
  have HD := hid (show (((C.setIfInBounds (l.length * 3) (.int .i64 (-7))).setIfInBounds (l.length * 3 + 1) (.int .i64 0)).setIfInBounds (l.length * 3 + 2) (.int .i64 0)) = (l.flatMap tCells ++ ([.int .i64 (-7), .int .i64 0, .int .i64 0] : List Value)).toArray by
    rw [hC]
    have hdl : (Z.toList.drop (l.flatMap tCells).length).length = 3 := by rw [List.length_drop, hfl]; simp [hZ, Nat.succ_mul]
    generalize Z.toList.drop (l.flatMap tCells).length = t at hdl
    match t, hdl with
    | [t0, t1, t2], _ =>
      apply Array.ext'
      simp only [Array.toList_setIfInBounds]
      rw [← hfl]
      simp [List.set_append])
  clear hC hZ hr
  have hq : ∀ w, (binOp .eql 62 (.slice (some a) l.length cap) (.slice none 0 0)).run Tryz.prog w = .ok (.bool false) w := fun w => Lib.run_eql_slice_nil w 62 109 _ _ _ _ _ und_prt
  have q0 : C[l.length * 3]? = some (Z.getD (l.length * 3 + 0) default) := HCg.out 0 (by omega)
  have q1 : C[l.length * 3 + 1]? = some (Z.getD (l.length * 3 + 1) default) := HCg.out 1 (by omega)
  have q2 : C[l.length * 3 + 2]? = some (Z.getD (l.length * 3 + 2) default) := HCg.out 2 (by omega)
  go_enter Tryz.func146, Tryz.ntmps146
  go_wp2
  rw [HD.out]
  go_ret
  exact ⟨rfl, rfl⟩
theorem lentNil_prt (cap : Nat) (w : World) :
    Calls Tryz.prog 146 #[.slice none 0 cap] w fun e w' => e = .returned (.slice none 0 0) ∧ w' = w := by
  have hq : ∀ w, (binOp .eql 62 (.slice none 0 cap) (.slice none 0 0)).run Tryz.prog w = .ok (.bool true) w := fun w => Lib.run_eql_slice_nil w 62 109 _ _ _ _ _ und_prt
  go_enter Tryz.func146, Tryz.ntmps146
  go_wp2
  go_ret
  exact ⟨rfl, rfl⟩
end Go.Proofs.YtmkjlhplgcifiaaGreat
namespace Go.Proofs.YtmkjlhplgcifiaaGreat
open Go.ChangeShapes Go.WideShapes Go.ChangeAt Go.RowKit
set_option linter.unusedVariables false
set_option linter.unusedSimpArgs false
attribute [local simp] World.cell?_grow World.cell?_alloc_there
attribute [local go_sem] World.cell?_grow World.cell?_alloc_there eqg_blk std_blk eqg_pod std_pod eqg_sel std_sel eqg_prt std_prt
attribute [local go_sem ↓] eql_blk eql_sel neq_sel eql_prt eql_pod met_in1 met_in2 met_re1 met_re2
def Only (lo hi : Nat) (w w' : World) : Prop :=
  (w'.os = w.os ∧ w'.tape = w.tape ∧ w'.output = w.output) ∧ w.heap.size ≤ w'.heap.size ∧ ∀ k, k < w.heap.size → ¬ (lo ≤ k ∧ k < hi) → w'.heap[k]? = w.heap[k]?
theorem Only.refl (lo hi : Nat) (w : World) : Only lo hi w w := ⟨⟨rfl, rfl, rfl⟩, Nat.le_refl _, fun _ _ _ => rfl⟩
theorem Only.trans {lo hi : Nat} {a b c : World} (h : Only lo hi a b) (k : Only lo hi b c) : Only lo hi a c :=
  ⟨⟨k.1.1.trans h.1.1, k.1.2.1.trans h.1.2.1, k.1.2.2.trans h.1.2.2⟩, Nat.le_trans h.2.1 k.2.1, fun i hi' hn => (k.2.2 i (Nat.lt_of_lt_of_le hi' h.2.1) hn).trans (h.2.2 i hi' hn)⟩
theorem Only.mono {lo hi lo' hi' : Nat} {a b : World} (h : Only lo hi a b) (h1 : lo' ≤ lo) (h2 : hi ≤ hi') : Only lo' hi' a b :=
  ⟨h.1, h.2.1, fun k hk hn => h.2.2 k hk (by omega)⟩
theorem Only.of_below {lo hi : Nat} {a b : World} (h : Below a.heap.size a b) : Only lo hi a b := ⟨⟨h.os, h.tape, h.output⟩, h.size, fun k hk _ => h.block k hk⟩
theorem Only.setCell {lo hi : Nat} {a w : World} (h : Only lo hi a w) {p : Addr} (h1 : lo ≤ p.block) (h2 : p.block < hi) (u : Value) : Only lo hi a (w.setCell p u) :=
  ⟨h.1, Nat.le_trans h.2.1 (by simp [World.setCell]), fun k hk hn => by rw [Below.heap_setCell _ _ _ _ (by omega)]; exact h.2.2 k hk hn⟩
theorem Only.below {lo hi B : Nat} {a w : World} (h : Only lo hi a w) (hB : B ≤ lo) (hs : B ≤ a.heap.size) : Below B a w :=
  ⟨h.1.1, h.1.2.1, h.1.2.2, h.2.1, fun k hk => h.2.2 k (by omega) (by omega)⟩
theorem Only.heap {lo hi : Nat} {a w : World} (h : Only lo hi a w) {k : Nat} (hk : k < a.heap.size) (hn : ¬ (lo ≤ k ∧ k < hi)) : w.heap[k]? = a.heap[k]? := h.2.2 k hk hn
theorem cell_heap {a w : World} {g o : Nat} (h : w.heap[g]? = a.heap[g]?) : w.cell? ⟨g, o, none⟩ = a.cell? ⟨g, o, none⟩ := World.cell?_of_block (w := a) h
def own (w : World) (g n : Nat) : Prop := (∀ o, o < n → ∃ v, w.cell? ⟨g, o, none⟩ = some v) ∧ ∀ o, w.frozen? ⟨g, o, none⟩ = false
theorem own_of {w : World} {g n : Nat} {c : Array Value} {t : TypeId} (h : w.heap[g]? = some (.cells c t (0, 0))) (hs : c.size = n) : own w g n := by
  refine ⟨fun o ho => ⟨c[o]'(by omega), by simp [World.cell?, h, hs, ho]⟩, fun o => by simp [World.frozen?, h]⟩
theorem own_heap {w w' : World} {g n : Nat} (h : own w g n) (he : w'.heap[g]? = w.heap[g]?) : own w' g n :=
  ⟨fun o ho => by rw [World.cell?_of_block (w := w) he]; exact h.1 o ho, fun o => by rw [World.frozen?_of_block (w := w) he]; exact h.2 o⟩
theorem own_set {w : World} {g n : Nat} (h : own w g n) (o : Nat) (u : Value) : own (w.setCell ⟨g, o, none⟩ u) g n := by
  refine ⟨fun p hp => ?_, fun p => ?_⟩
  · obtain ⟨v, hv⟩ := h.1 p hp
    by_cases e : p = o
    · subst e
      exact ⟨u, World.cell?_setCell_same w _ _ hv⟩
    · exact ⟨v, by rw [World.cell?_setCell_other _ _ _ _ (fun h => e (by cases h; rfl))]; exact hv⟩
  · have := h.2 p
    simp only [World.frozen?, World.setCell, Array.getElem?_modify] at this ⊢
    cases hq : w.heap[g]? with
    | none => simp [hq]
    | some ob => cases ob <;> simp_all
theorem row_cell {w : World} {g : Nat} {c : List Value} {t : TypeId} (h : w.heap[g]? = some (.cells c.toArray t (0, 0))) {o : Nat} {v : Value} (hv : c[o]? = some v) : w.cell? ⟨g, o, none⟩ = some v := by
  simp only [World.cell?, h]
  simpa using hv
set_option maxHeartbeats 2000000 in
theorem back_blk (l : List DBlk) (a : Addr) (cap B g : Nat) (w : World) (hr : rdBlks B w (some a) l) (hB : B ≤ g) (hg : w.heap[g]? = some (.cells (l.flatMap bCells ++ ([.int .i64 (-7), .int .i64 7] : List Value)).toArray 47 (0, 0))) :
    Calls Tryz.prog 170 #[.slice (some ⟨g, 0, none⟩) l.length (l.length + 1), .slice (some a) l.length cap] w fun e w' => e = .returned (.bool true) ∧ Only g (g + 1) w w' := by
  have HR := hid hr
  have HG := hid hg
  have hlen := hr.1
  have hgs : g < w.heap.size := by
    rcases Nat.lt_or_ge g w.heap.size with h | h
    · exact h
    · rw [Array.getElem?_eq_none h] at hg; cases hg
  have HO := hid (own_of hg (show _ = (l.length + 1) * 2 by simp [flat_len bCells 2 lens_blk, Nat.succ_mul]))
  clear hr hg
  have hq : ∀ w, (binOp .eql 67 (.slice (some a) l.length cap) (.slice none 0 0)).run Tryz.prog w = .ok (.bool false) w := fun w => Lib.run_eql_slice_nil w 67 47 _ _ _ _ _ und_blk
  have hne : ((l.length : Int) != (l.length : Int)) = false := by simp
  have s0 : w.cell? ⟨g, l.length * 2, none⟩ = some (.int .i64 (-7)) := row_cell HG.out ((flat_end bCells 2 lens_blk l _ 0).trans rfl)
  have s1 : w.cell? ⟨g, l.length * 2 + 1, none⟩ = some (.int .i64 7) := row_cell HG.out ((flat_end bCells 2 lens_blk l _ 1).trans rfl)
  go_enter Tryz.func170, Tryz.ntmps170
  go_wp2
  go_loopw [6, 7] (fun ok i wr => ∃ k : Nat, k ≤ l.length ∧ i = .int .i64 k ∧ ok = .bool true ∧ Below w.heap.size w wr) (fun _ i _ => l.length - (intOf i).toNat)
  case atStart => exact ⟨0, Nat.zero_le _, rfl, rfl, Below.refl _ _⟩
  case round =>
    obtain ⟨k, hk, rfl, rfl, hbw⟩ := hrel
    by_cases hlt : k < l.length
    · obtain ⟨x, hxk⟩ : ∃ x, l[k]? = some x := ⟨l[k], by simp [hlt]⟩
      have HX := hid hxk
      clear hxk
      obtain ⟨b, off, he, hb, c0, c1⟩ := HR.out.2 k x HX.out
      cases he
      have d0 := cell_to c0 hbw
      have d1 := cell_to c1 hbw
      have e0 : wr.cell? ⟨g, k * 2, none⟩ = some (.int .i64 x.base) := cell_to (row_cell HG.out ((flat_at bCells 2 lens_blk l _ k x HX.out 0 (by omega)).trans rfl)) hbw
      have e1 : wr.cell? ⟨g, k * 2 + 1, none⟩ = some (.int .i64 x.bits) := cell_to (row_cell HG.out ((flat_at bCells 2 lens_blk l _ k x HX.out 1 (by omega)).trans rfl)) hbw
      clear c0 c1 s0 s1
      go_wp2
      refine wp_region_grow (by kernel_rfl) (by kernel_rfl) ?_
      repeat (go_big_quiet_step (fail))
      refine wpQuiet_nil ?_
      intro w1 hb1
      obtain ⟨hc1, hf1⟩ := bcell hb1
      have hz1 := hb_lt hb1
      go_wp2
      exact ⟨⟨k + 1, by omega, by go_num, by simp, Ext.trans hbw hb1⟩, by simp [intOf]; omega⟩
    · obtain ⟨wa, hwa⟩ : ∃ wa, wa = wr := ⟨_, rfl⟩
      subst hwa
      have HB := hid hbw
      clear s0 s1
      go_wp2
      go_loopw [8] (fun i wr => ∃ k : Nat, k ≤ l.length + 1 ∧ i = .int .i64 k ∧ own wr g ((l.length + 1) * 2) ∧ Only g (g + 1) w wr) (fun i _ => l.length + 1 - (intOf i).toNat)
      case atStart => exact ⟨0, Nat.zero_le _, rfl, own_heap HO.out (HB.out.block g hgs), Only.of_below HB.out⟩
      case round =>
        obtain ⟨k, hk, rfl, hown, hon⟩ := hrel
        have HON := hid hon
        have HOW := hid hown
        by_cases hlt2 : k < l.length + 1
        · have hfr := hown.2
          obtain ⟨v0, e0⟩ := hown.1 (k * 2) (by omega)
          obtain ⟨v1, e1⟩ := hown.1 (k * 2 + 1) (by omega)
          clear hown hon
          go_wp2
          exact ⟨⟨k + 1, by omega, by go_num, (own_set (own_set HOW.out _ _) _ _), ((HON.out.setCell (Nat.le_refl _) (Nat.lt_succ_self _) _).setCell (Nat.le_refl _) (Nat.lt_succ_self _) _)⟩, by simp [intOf]; omega⟩
        · clear hown hon
          go_wp2
          go_ret
          exact ⟨rfl, HON.out⟩
theorem backNil_blk (hc cap : Nat) (w : World) :
    Calls Tryz.prog 170 #[.slice none 0 hc, .slice none 0 cap] w fun e w' => e = .returned (.bool true) ∧ w' = w := by
  have hq : ∀ c w, (binOp .eql 67 (.slice none 0 c) (.slice none 0 0)).run Tryz.prog w = .ok (.bool true) w := fun c w => Lib.run_eql_slice_nil w 67 47 _ _ _ _ _ und_blk
  go_enter Tryz.func170, Tryz.ntmps170
  go_wp2
  go_ret
  exact ⟨rfl, rfl⟩
set_option maxHeartbeats 2000000 in
theorem back_prt (l : List DPort) (a : Addr) (cap B g : Nat) (w : World) (hr : rdPorts B w (some a) l) (hB : B ≤ g) (hg : w.heap[g]? = some (.cells (l.flatMap tCells ++ ([.int .i64 (-7), .int .i64 0, .int .i64 0] : List Value)).toArray 109 (0, 0))) :
    Calls Tryz.prog 148 #[.slice (some ⟨g, 0, none⟩) l.length (l.length + 1), .slice (some a) l.length cap] w fun e w' => e = .returned (.bool true) ∧ Only g (g + 1) w w' := by
  have HR := hid hr
  have HG := hid hg
  have hlen := hr.1
  have hgs : g < w.heap.size := by
    rcases Nat.lt_or_ge g w.heap.size with h | h
    · exact h
    · rw [Array.getElem?_eq_none h] at hg; cases hg
  have HO := hid (own_of hg (show _ = (l.length + 1) * 3 by simp [flat_len tCells 3 lens_prt, Nat.succ_mul]))
  clear hr hg
  have hq : ∀ w, (binOp .eql 62 (.slice (some a) l.length cap) (.slice none 0 0)).run Tryz.prog w = .ok (.bool false) w := fun w => Lib.run_eql_slice_nil w 62 109 _ _ _ _ _ und_prt
  have hne : ((l.length : Int) != (l.length : Int)) = false := by simp
  have s0 : w.cell? ⟨g, l.length * 3, none⟩ = some (.int .i64 (-7)) := row_cell HG.out ((flat_end tCells 3 lens_prt l _ 0).trans rfl)
  have s1 : w.cell? ⟨g, l.length * 3 + 1, none⟩ = some (.int .i64 0) := row_cell HG.out ((flat_end tCells 3 lens_prt l _ 1).trans rfl)
  have s2 : w.cell? ⟨g, l.length * 3 + 2, none⟩ = some (.int .i64 0) := row_cell HG.out ((flat_end tCells 3 lens_prt l _ 2).trans rfl)
  go_enter Tryz.func148, Tryz.ntmps148
  go_wp2
  go_loopw [6, 7] (fun ok i wr => ∃ k : Nat, k ≤ l.length ∧ i = .int .i64 k ∧ ok = .bool true ∧ Below w.heap.size w wr) (fun _ i _ => l.length - (intOf i).toNat)
  case atStart => exact ⟨0, Nat.zero_le _, rfl, rfl, Below.refl _ _⟩
  case round =>
    obtain ⟨k, hk, rfl, rfl, hbw⟩ := hrel
    by_cases hlt : k < l.length
    · obtain ⟨x, hxk⟩ : ∃ x, l[k]? = some x := ⟨l[k], by simp [hlt]⟩
      have HX := hid hxk
      clear hxk
      obtain ⟨b, off, he, hb, c0, c1, c2⟩ := HR.out.2 k x HX.out
      cases he
      have d0 := cell_to c0 hbw
      have d1 := cell_to c1 hbw
      have d2 := cell_to c2 hbw
      have e0 : wr.cell? ⟨g, k * 3, none⟩ = some (.int .i64 x.proto) := cell_to (row_cell HG.out ((flat_at tCells 3 lens_prt l _ k x HX.out 0 (by omega)).trans rfl)) hbw
      have e1 : wr.cell? ⟨g, k * 3 + 1, none⟩ = some (.int .i64 x.lo) := cell_to (row_cell HG.out ((flat_at tCells 3 lens_prt l _ k x HX.out 1 (by omega)).trans rfl)) hbw
      have e2 : wr.cell? ⟨g, k * 3 + 2, none⟩ = some (.int .i64 x.hi) := cell_to (row_cell HG.out ((flat_at tCells 3 lens_prt l _ k x HX.out 2 (by omega)).trans rfl)) hbw
      clear c0 c1 c2 s0 s1 s2
      go_wp2
      refine wp_region_grow (by kernel_rfl) (by kernel_rfl) ?_
      repeat (go_big_quiet_step (fail))
      refine wpQuiet_nil ?_
      intro w1 hb1
      obtain ⟨hc1, hf1⟩ := bcell hb1
      have hz1 := hb_lt hb1
      go_wp2
      exact ⟨⟨k + 1, by omega, by go_num, by simp, Ext.trans hbw hb1⟩, by simp [intOf]; omega⟩
    · obtain ⟨wa, hwa⟩ : ∃ wa, wa = wr := ⟨_, rfl⟩
      subst hwa
      have HB := hid hbw
      clear s0 s1 s2
      go_wp2
      go_loopw [8] (fun i wr => ∃ k : Nat, k ≤ l.length + 1 ∧ i = .int .i64 k ∧ own wr g ((l.length + 1) * 3) ∧ Only g (g + 1) w wr) (fun i _ => l.length + 1 - (intOf i).toNat)
      case atStart => exact ⟨0, Nat.zero_le _, rfl, own_heap HO.out (HB.out.block g hgs), Only.of_below HB.out⟩
      case round =>
        obtain ⟨k, hk, rfl, hown, hon⟩ := hrel
        have HON := hid hon
        have HOW := hid hown
        by_cases hlt2 : k < l.length + 1
        · have hfr := hown.2
          obtain ⟨v0, e0⟩ := hown.1 (k * 3) (by omega)
          obtain ⟨v1, e1⟩ := hown.1 (k * 3 + 1) (by omega)
          obtain ⟨v2, e2⟩ := hown.1 (k * 3 + 2) (by omega)
          clear hown hon
          go_wp2
          exact ⟨⟨k + 1, by omega, by go_num, (own_set (own_set (own_set HOW.out _ _) _ _) _ _), (((HON.out.setCell (Nat.le_refl _) (Nat.lt_succ_self _) _).setCell (Nat.le_refl _) (Nat.lt_succ_self _) _).setCell (Nat.le_refl _) (Nat.lt_succ_self _) _)⟩, by simp [intOf]; omega⟩
        · clear hown hon
          go_wp2
          go_ret
          exact ⟨rfl, HON.out⟩
theorem backNil_prt (hc cap : Nat) (w : World) :
    Calls Tryz.prog 148 #[.slice none 0 hc, .slice none 0 cap] w fun e w' => e = .returned (.bool true) ∧ w' = w := by
  have hq : ∀ c w, (binOp .eql 62 (.slice none 0 c) (.slice none 0 0)).run Tryz.prog w = .ok (.bool true) w := fun c w => Lib.run_eql_slice_nil w 62 109 _ _ _ _ _ und_prt
  go_enter Tryz.func148, Tryz.ntmps148
  go_wp2
  go_ret
  exact ⟨rfl, rfl⟩
end Go.Proofs.YtmkjlhplgcifiaaGreat
