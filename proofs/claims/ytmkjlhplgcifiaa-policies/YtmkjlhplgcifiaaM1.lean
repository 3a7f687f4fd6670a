/-
  What is handed in lies in lists of the caller's own: lists of plain structs.
-/
import Derived.Test.YtmkjlhplgcifiaaL4
import Derived.Laws.CopyRow
import Derived.Laws.MakeOwn
import Derived.Laws.Append
import Derived.Lib.SliceRun
namespace Go.Proofs.Ytmkjlhplgcifiaa
open Go.ChangeShapes Go.WideShapes Go.ChangeAt Go.RowKit
attribute [local simp] World.cell?_grow
attribute [local go_sem] World.cell?_grow
attribute [local go_sem] eqg_blk std_blk eqg_pod std_pod eqg_sel std_sel eqg_prt std_prt
attribute [local go_sem ↓] eql_blk eql_sel neq_sel eql_prt eql_pod
set_option linter.unusedVariables false
set_option linter.unusedSimpArgs false

/-- a copy between rows of elements of whatever size -/
theorem copy_big (P : Program) (w : World) (dT sT ty elem : TypeId) (g dLen dCap : Nat) (a : Addr) (sLen sCap sz : Nat) (cur : Array Value) (t : TypeId) (cs : List Value)
    (hu : P.underlying dT = some (.slice elem)) (hs : (P.info? elem).map (·.size) = some sz)
    (hg : w.heap[g]? = some (.cells cur t (0, 0))) (hn : cs.length = sLen * sz) (hd : sLen ≤ dLen)
    (hsrc : ∀ j v, cs[j]? = some v → w.cell? (a.add j) = some v) (hfit : cs.length ≤ cur.size) (h1 : ∀ v ∈ cs, v.oneCell' = true) :
    (Builtin.copy_ #[dT, sT] ty #[.slice (some ⟨g, 0, none⟩) dLen dCap, .slice (some a) sLen sCap]).run P w =
      .ok (goInt sLen) (w.setRow g (cs ++ cur.toList.drop cs.length).toArray) := by
  have hl := run_loadCells_list (P := P) w a cs hsrc
  have hst := run_storeCells_at P g 0 t cs 0 cur w hg (by simpa using hfit) h1
  cases hq : P.info? elem with
  | none => simp [hq] at hs
  | some i =>
    have hi : i.size = sz := by simpa [hq] using hs
    have hm : sLen.min dLen = sLen := Nat.min_eq_left hd
    have hst2 : (storeCells ⟨g, 0, none⟩ cs).run P w = .ok () (w.setRow g (cs ++ cur.toList.drop cs.length).toArray) := by simpa using hst
    simp [Builtin.copy_, run_underlying hu, Builtin.lenOf, Builtin.firstCells, sizeOf, typeInfo, hq, hi, hm, ← hn, hl, hst2]

theorem setRow_alloc (w : World) (c d : Array Value) (t : TypeId) : (w.alloc (.cells c t)).setRow w.heap.size d = w.alloc (.cells d t) := by
  cases w with
  | mk heap tape drawn os output =>
    show World.mk _ _ _ _ _ = World.mk (heap.push (.cells d t)) _ _ _ _
    congr 1
    apply Array.ext
    · simp [World.alloc]
    · intro k h1 h2
      simp only [World.alloc, Array.getElem_modify, Array.getElem_push]
      by_cases hk : heap.size = k
      · subst hk; simp
      · simp only [if_neg hk]
        split
        · rfl
        · rename_i h3; simp at h2; omega
theorem alloc_heap (w : World) (o : Obj) : (w.alloc o).heap[w.heap.size]? = some o := by
  show (w.heap.push o)[w.heap.size]? = _
  simp

theorem flat_get {α : Type} (f : α → List Value) (sz : Nat) (hf : ∀ x, (f x).length = sz) (hz : 0 < sz) : ∀ (l : List α) (j : Nat) (v : Value), (l.flatMap f)[j]? = some v → ∃ x, l[j / sz]? = some x ∧ (f x)[j % sz]? = some v
  | [], j, v, h => by simp at h
  | x :: t, j, v, h => by
    rw [List.flatMap_cons, List.getElem?_append] at h
    rw [hf x] at h
    split at h
    · rename_i hj
      rw [Nat.div_eq_of_lt hj, Nat.mod_eq_of_lt hj]
      exact ⟨x, by simp, h⟩
    · rename_i hj
      obtain ⟨y, h1, h2⟩ := flat_get f sz hf hz t (j - sz) v h
      have e : j = (j - sz) + sz := by omega
      refine ⟨y, ?_, ?_⟩
      · rw [e, Nat.add_div_right _ hz]; simpa using h1
      · rw [e, Nat.add_mod_right]; exact h2
theorem flat_len {α : Type} (f : α → List Value) (sz : Nat) (hf : ∀ x, (f x).length = sz) : ∀ l : List α, (l.flatMap f).length = l.length * sz
  | [] => by simp
  | x :: t => by rw [List.flatMap_cons, List.length_append, hf, flat_len f sz hf t, List.length_cons, Nat.succ_mul]; omega
theorem flat_at {α : Type} (f : α → List Value) (sz : Nat) (hf : ∀ x, (f x).length = sz) (l : List α) (e : List Value) (i : Nat) (x : α) (h : l[i]? = some x) (r : Nat) (hr : r < sz) : (l.flatMap f ++ e)[i * sz + r]? = (f x)[r]? := by
  induction l generalizing i with
  | nil => simp at h
  | cons y t ih =>
    rw [List.flatMap_cons, List.append_assoc]
    cases i with
    | zero =>
      simp at h
      subst h
      rw [List.getElem?_append_left (by rw [hf]; omega)]
      simp
    | succ i =>
      rw [List.getElem?_append_right (by rw [hf, Nat.succ_mul]; omega)]
      have : (i + 1) * sz + r - (f y).length = i * sz + r := by rw [hf, Nat.succ_mul]; omega
      rw [this]
      exact ih i (by simpa using h)
theorem flat_end {α : Type} (f : α → List Value) (sz : Nat) (hf : ∀ x, (f x).length = sz) (l : List α) (e : List Value) (r : Nat) : (l.flatMap f ++ e)[l.length * sz + r]? = e[r]? := by
  rw [List.getElem?_append_right (by rw [flat_len f sz hf]; omega), flat_len f sz hf]
  congr 1; omega

def bCells (x : DBlk) : List Value := [.int .i64 x.base, .int .i64 x.bits]
def tCells (x : DPort) : List Value := [.int .i64 x.proto, .int .i64 x.lo, .int .i64 x.hi]
def oCells (x : DPod) : List Value := [.int .i64 x.host, .int .i64 x.ip, .int .i64 x.space, .int .i64 x.labels]

theorem und_blk : Try.prog.underlying 45 = some (.slice 44) := Try.underlying45
theorem siz_blk : (Try.prog.info? 44).map (·.size) = some 2 := by kernel_rfl
theorem inf_blk : ∃ i, Try.prog.info? 44 = some i ∧ i.zero = some (.agg #[.int .i64 0, .int .i64 0]) ∧ i.size = 2 ∧ i.bytes = 16 := by
  have h0 : (Try.prog.info? 44).isSome = true := by kernel_rfl
  have h1 : (Try.prog.info? 44).map (·.zero) = some (some (.agg #[.int .i64 0, .int .i64 0])) := by kernel_rfl
  have h2 : (Try.prog.info? 44).map (·.bytes) = some 16 := by kernel_rfl
  have h3 := siz_blk
  obtain ⟨i, hi⟩ := Option.isSome_iff_exists.1 h0
  rw [hi] at h1 h2 h3
  exact ⟨i, hi, by simpa using h1, by simpa using h3, by simpa using h2⟩
theorem make_blk (n : Nat) (w : World) (h : n * 16 ≤ 140737488351232) : ∃ Z : Array Value, Z.size = (n + 1) * 2 ∧
    (Instr.makeSlice 45 (.int .i64 ((n : Int) + 1)) (.int .i64 ((n : Int) + 1))).run Try.prog w = .ok (.slice (some ⟨w.heap.size, 0, none⟩) (n + 1) (n + 1)) (w.alloc (.cells Z 44)) := by
  obtain ⟨i, h1, h2, h3, h4⟩ := inf_blk
  have := run_make (P := Try.prog) w 45 44 i _ und_blk h1 h2 .i64 .i64 ((n : Int) + 1) ((n : Int) + 1) (by omega) (by omega) (by rw [h4]; omega) (by omega)
  have e : ((n : Int) + 1).toNat = n + 1 := by omega
  rw [h3, e] at this
  exact ⟨_, size_madeCells _ _, this⟩
theorem lens_blk (x : DBlk) : (bCells x).length = 2 := rfl
theorem src_blk (B : Nat) (w : World) (a : Addr) (l : List DBlk) (h : rdBlks B w (some a) l) : ∀ j v, (l.flatMap bCells)[j]? = some v → w.cell? (a.add j) = some v := by
  intro j v hj
  obtain ⟨x, h1, h2⟩ := flat_get bCells 2 lens_blk (by omega) l j v hj
  obtain ⟨b, off, he, hb, h3⟩ := h.2 _ x h1
  cases he
  have ha : (⟨b, off, none⟩ : Addr).add j = ⟨b, off + j / 2 * 2 + j % 2, none⟩ := by
    have : j / 2 * 2 + j % 2 = j := by omega
    unfold Addr.add
    split
    · rename_i h0; subst h0; simp
    · simp only [Addr.mk.injEq, true_and, and_true]; omega
  rw [ha]
  unfold eBlk at h3
  obtain ⟨g0, g1⟩ := h3
  have hlt : j % 2 < 2 := Nat.mod_lt _ (by omega)
  generalize j % 2 = r at h2 hlt
  match r, hlt with
  | 0, _ => simp [bCells] at h2; subst h2; exact g0
  | 1, _ => simp [bCells] at h2; subst h2; exact g1

set_option maxHeartbeats 1000000 in
theorem lent_blk (l : List DBlk) (a : Addr) (cap B : Nat) (w : World) (hr : rdBlks B w (some a) l) :
    Calls Try.prog 69 #[.slice (some a) l.length cap] w fun e w' => e = .returned (.slice (some ⟨w.heap.size, 0, none⟩) l.length (l.length + 1)) ∧ w' = w.alloc (.cells (l.flatMap bCells ++ ([.int .i64 (-7), .int .i64 7] : List Value)).toArray 44) := by
  have hlen := hr.1
  obtain ⟨Z, hZ, hmk⟩ := make_blk l.length w hlen
  have hfl := flat_len bCells 2 lens_blk l
  have hcp := copy_big Try.prog (w.alloc (.cells Z 44)) 45 45 3 44 w.heap.size (l.length + 1) (l.length + 1) a l.length cap 2 Z 44 (l.flatMap bCells) und_blk siz_blk (alloc_heap _ _) hfl (by omega)
    (fun j v hj => by
      have h1 := src_blk B w a l hr j v hj
      rw [World.cell?_alloc_lt _ _ _ (World.block_lt_of_cell? w _ h1)]
      exact h1) (by rw [hfl, hZ, Nat.succ_mul]; omega) (fun v hv => by
      obtain ⟨x, _, hx⟩ := List.mem_flatMap.1 hv
      simp [bCells] at hx
      rcases hx with rfl | rfl <;> rfl)
  rw [setRow_alloc] at hcp
  obtain ⟨C, hC⟩ : ∃ C, C = (l.flatMap bCells ++ Z.toList.drop (l.flatMap bCells).length).toArray := ⟨_, rfl⟩
  rw [← hC] at hcp
  have HCg := hid (show ∀ r, r < 2 → C[l.length * 2 + r]? = some (Z.getD (l.length * 2 + r) default) from fun r hr => by
    rw [hC, List.getElem?_toArray, flat_end bCells 2 lens_blk, List.getElem?_drop, hfl]
    have : l.length * 2 + r < Z.size := by rw [hZ, Nat.succ_mul]; omega
    simp [Array.getD, this])
  have HD := hid (show ((C.setIfInBounds (l.length * 2) (.int .i64 (-7))).setIfInBounds (l.length * 2 + 1) (.int .i64 7)) = (l.flatMap bCells ++ ([.int .i64 (-7), .int .i64 7] : List Value)).toArray by
    rw [hC]
    have hdl : (Z.toList.drop (l.flatMap bCells).length).length = 2 := by rw [List.length_drop, hfl]; simp [hZ, Nat.succ_mul]
    generalize Z.toList.drop (l.flatMap bCells).length = t at hdl
    match t, hdl with
    | [t0, t1], _ =>
      apply Array.ext'
      simp only [Array.toList_setIfInBounds]
      rw [← hfl]
      simp [List.set_append])
  clear hC hZ hr
  have hq : ∀ w, (binOp .eql 45 (.slice (some a) l.length cap) (.slice none 0 0)).run Try.prog w = .ok (.bool false) w := fun w => Lib.run_eql_slice_nil w 45 44 _ _ _ _ _ und_blk
  have q0 : C[l.length * 2]? = some (Z.getD (l.length * 2 + 0) default) := HCg.out 0 (by omega)
  have q1 : C[l.length * 2 + 1]? = some (Z.getD (l.length * 2 + 1) default) := HCg.out 1 (by omega)
  go_enter Try.func69, Try.ntmps69
  go_wp2
  rw [HD.out]
  go_ret
  exact ⟨rfl, rfl⟩
theorem lentNil_blk (cap : Nat) (w : World) :
    Calls Try.prog 69 #[.slice none 0 cap] w fun e w' => e = .returned (.slice none 0 0) ∧ w' = w := by
  have hq : ∀ w, (binOp .eql 45 (.slice none 0 cap) (.slice none 0 0)).run Try.prog w = .ok (.bool true) w := fun w => Lib.run_eql_slice_nil w 45 44 _ _ _ _ _ und_blk
  go_enter Try.func69, Try.ntmps69
  go_wp2
  go_ret
  exact ⟨rfl, rfl⟩

theorem und_prt : Try.prog.underlying 51 = some (.slice 50) := Try.underlying51
theorem siz_prt : (Try.prog.info? 50).map (·.size) = some 3 := by kernel_rfl
theorem inf_prt : ∃ i, Try.prog.info? 50 = some i ∧ i.zero = some (.agg #[.int .i64 0, .int .i64 0, .int .i64 0]) ∧ i.size = 3 ∧ i.bytes = 24 := by
  have h0 : (Try.prog.info? 50).isSome = true := by kernel_rfl
  have h1 : (Try.prog.info? 50).map (·.zero) = some (some (.agg #[.int .i64 0, .int .i64 0, .int .i64 0])) := by kernel_rfl
  have h2 : (Try.prog.info? 50).map (·.bytes) = some 24 := by kernel_rfl
  have h3 := siz_prt
  obtain ⟨i, hi⟩ := Option.isSome_iff_exists.1 h0
  rw [hi] at h1 h2 h3
  exact ⟨i, hi, by simpa using h1, by simpa using h3, by simpa using h2⟩
theorem make_prt (n : Nat) (w : World) (h : n * 24 ≤ 140737488351232) : ∃ Z : Array Value, Z.size = (n + 1) * 3 ∧
    (Instr.makeSlice 51 (.int .i64 ((n : Int) + 1)) (.int .i64 ((n : Int) + 1))).run Try.prog w = .ok (.slice (some ⟨w.heap.size, 0, none⟩) (n + 1) (n + 1)) (w.alloc (.cells Z 50)) := by
  obtain ⟨i, h1, h2, h3, h4⟩ := inf_prt
  have := run_make (P := Try.prog) w 51 50 i _ und_prt h1 h2 .i64 .i64 ((n : Int) + 1) ((n : Int) + 1) (by omega) (by omega) (by rw [h4]; omega) (by omega)
  have e : ((n : Int) + 1).toNat = n + 1 := by omega
  rw [h3, e] at this
  exact ⟨_, size_madeCells _ _, this⟩
theorem lens_prt (x : DPort) : (tCells x).length = 3 := rfl
theorem src_prt (B : Nat) (w : World) (a : Addr) (l : List DPort) (h : rdPorts B w (some a) l) : ∀ j v, (l.flatMap tCells)[j]? = some v → w.cell? (a.add j) = some v := by
  intro j v hj
  obtain ⟨x, h1, h2⟩ := flat_get tCells 3 lens_prt (by omega) l j v hj
  obtain ⟨b, off, he, hb, h3⟩ := h.2 _ x h1
  cases he
  have ha : (⟨b, off, none⟩ : Addr).add j = ⟨b, off + j / 3 * 3 + j % 3, none⟩ := by
    have : j / 3 * 3 + j % 3 = j := by omega
    unfold Addr.add
    split
    · rename_i h0; subst h0; simp
    · simp only [Addr.mk.injEq, true_and, and_true]; omega
  rw [ha]
  unfold ePort at h3
  obtain ⟨g0, g1, g2⟩ := h3
  have hlt : j % 3 < 3 := Nat.mod_lt _ (by omega)
  generalize j % 3 = r at h2 hlt
  match r, hlt with
  | 0, _ => simp [tCells] at h2; subst h2; exact g0
  | 1, _ => simp [tCells] at h2; subst h2; exact g1
  | 2, _ => simp [tCells] at h2; subst h2; exact g2

set_option maxHeartbeats 1000000 in
theorem lent_prt (l : List DPort) (a : Addr) (cap B : Nat) (w : World) (hr : rdPorts B w (some a) l) :
    Calls Try.prog 50 #[.slice (some a) l.length cap] w fun e w' => e = .returned (.slice (some ⟨w.heap.size, 0, none⟩) l.length (l.length + 1)) ∧ w' = w.alloc (.cells (l.flatMap tCells ++ ([.int .i64 (-7), .int .i64 0, .int .i64 0] : List Value)).toArray 50) := by
  have hlen := hr.1
  obtain ⟨Z, hZ, hmk⟩ := make_prt l.length w hlen
  have hfl := flat_len tCells 3 lens_prt l
  have hcp := copy_big Try.prog (w.alloc (.cells Z 50)) 51 51 3 50 w.heap.size (l.length + 1) (l.length + 1) a l.length cap 3 Z 50 (l.flatMap tCells) und_prt siz_prt (alloc_heap _ _) hfl (by omega)
    (fun j v hj => by
      have h1 := src_prt B w a l hr j v hj
      rw [World.cell?_alloc_lt _ _ _ (World.block_lt_of_cell? w _ h1)]
      exact h1) (by rw [hfl, hZ, Nat.succ_mul]; omega) (fun v hv => by
      obtain ⟨x, _, hx⟩ := List.mem_flatMap.1 hv
      simp [tCells] at hx
      rcases hx with rfl | rfl | rfl <;> rfl)
  rw [setRow_alloc] at hcp
  obtain ⟨C, hC⟩ : ∃ C, C = (l.flatMap tCells ++ Z.toList.drop (l.flatMap tCells).length).toArray := ⟨_, rfl⟩
  rw [← hC] at hcp
  have HCg := hid (show ∀ r, r < 3 → C[l.length * 3 + r]? = some (Z.getD (l.length * 3 + r) default) from fun r hr => by
    rw [hC, List.getElem?_toArray, flat_end tCells 3 lens_prt, List.getElem?_drop, hfl]
    have : l.length * 3 + r < Z.size := by rw [hZ, Nat.succ_mul]; omega
    simp [Array.getD, this])
  have HD := hid (show (((C.setIfInBounds (l.length * 3) (.int .i64 (-7))).setIfInBounds (l.length * 3 + 1) (.int .i64 0)).setIfInBounds (l.length * 3 + 2) (.int .i64 0)) = (l.flatMap tCells ++ ([.int .i64 (-7), .int .i64 0, .int .i64 0] : List Value)).toArray by
    rw [hC]
    have hdl : (Z.toList.drop (l.flatMap tCells).length).length = 3 := by rw [List.length_drop, hfl]; simp [hZ, Nat.succ_mul]
    generalize Z.toList.drop (l.flatMap tCells).length = t at hdl
    match t, hdl with
    | [t0, t1, t2], _ =>
      apply Array.ext'
      simp only [Array.toList_setIfInBounds]
      rw [← hfl]
      simp [List.set_append])
  clear hC hZ hr
  have hq : ∀ w, (binOp .eql 51 (.slice (some a) l.length cap) (.slice none 0 0)).run Try.prog w = .ok (.bool false) w := fun w => Lib.run_eql_slice_nil w 51 50 _ _ _ _ _ und_prt
  have q0 : C[l.length * 3]? = some (Z.getD (l.length * 3 + 0) default) := HCg.out 0 (by omega)
  have q1 : C[l.length * 3 + 1]? = some (Z.getD (l.length * 3 + 1) default) := HCg.out 1 (by omega)
  have q2 : C[l.length * 3 + 2]? = some (Z.getD (l.length * 3 + 2) default) := HCg.out 2 (by omega)
  go_enter Try.func50, Try.ntmps50
  go_wp2
  rw [HD.out]
  go_ret
  exact ⟨rfl, rfl⟩
theorem lentNil_prt (cap : Nat) (w : World) :
    Calls Try.prog 50 #[.slice none 0 cap] w fun e w' => e = .returned (.slice none 0 0) ∧ w' = w := by
  have hq : ∀ w, (binOp .eql 51 (.slice none 0 cap) (.slice none 0 0)).run Try.prog w = .ok (.bool true) w := fun w => Lib.run_eql_slice_nil w 51 50 _ _ _ _ _ und_prt
  go_enter Try.func50, Try.ntmps50
  go_wp2
  go_ret
  exact ⟨rfl, rfl⟩
end Go.Proofs.Ytmkjlhplgcifiaa
