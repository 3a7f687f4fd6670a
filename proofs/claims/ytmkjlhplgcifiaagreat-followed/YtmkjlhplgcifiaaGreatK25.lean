/-
  palisadekeep: without, walked: policies.
-/
import Derived.Test.YtmkjlhplgcifiaaGreatK24
namespace Go.Proofs.YtmkjlhplgcifiaaGreat
open Go.ChangeShapes Go.WideShapes Go.ChangeAt Go.RowKit
attribute [local simp] World.cell?_grow
attribute [local go_sem] World.cell?_grow
attribute [local simp] World.cell?_alloc_there
attribute [local go_sem] World.cell?_alloc_there
attribute [local go_sem] eqg_blk std_blk eqg_pod std_pod eqg_sel std_sel eqg_prt std_prt
attribute [local go_sem ↓] eql_blk eql_sel neq_sel eql_prt eql_pod
attribute [local go_sem ↓] met_in1 met_in2 met_re1 met_re2
attribute [local go_sem ↓] met_has1 met_has2
attribute [local go_sem ↓] met_bl1 met_bl2
attribute [local go_sem] eqg_row std_row
attribute [local go_sem ↓] neq_row
set_option linter.unusedVariables false
set_option linter.unusedSimpArgs false
theorem cells_sub {X : Type} {enc : X → List Value} {B B' k bytes : Nat} {w w' : World} {a : Option Addr} {l : List X} (hs : Sub w w') (hB : B ≤ B') (h : RdSl B w k bytes (eCells enc) a l) : RdSl B' w' k bytes (eCells enc) a l :=
  RdSl.ext h hB fun b o x _ he j u hj => hs _ _ _ (he j u hj)
theorem cells_ext {X : Type} {enc : X → List Value} {B B' k bytes : Nat} {w w' : World} {a : Option Addr} {l : List X} (hb : Below B w w') (hB : B ≤ B') (h : RdSl B w k bytes (eCells enc) a l) : RdSl B' w' k bytes (eCells enc) a l :=
  RdSl.ext h hB fun b o x hl he j u hj => by rw [hb.cell (p := ⟨b, o + j, none⟩) hl]; exact he j u hj
theorem FwWs.belowH {w Z w6 F : World} {tb rb n : Nat} {G : Nat → Bool} (h : FwWs w Z w6 F tb rb n) (hG : G tb = true) : Below (hide w G).heap.size (hide w G) (hide F G) := by
  have hf := h.frame
  refine ⟨hf.os, hf.tape, hf.output, by rw [hide_size, hide_size]; exact hf.size, fun b hb => ?_⟩
  rw [hide_size] at hb
  cases e : G b
  · rw [hide_block _ _ _ e, hide_block _ _ _ e]; exact hf.block b hb (fun e' => by cases e'; rw [hG] at e; cases e)
  · have h2 : b < F.heap.size := Nat.lt_of_lt_of_le hb hf.size
    simp [hide, Array.getElem?_mapIdx, e, hb, h2]
set_option maxRecDepth 100000 in
set_option maxHeartbeats 4000000 in
theorem without_neg (C : DClu) (k : Nat) (raw : Int) (tb : Nat) (G : Nat → Bool) (pa qa : Option Addr) (pc qc : Nat) (u0 u1 u2 : Value) (w : World) (hp : rdPods w.heap.size (hide w G) pa C.pods) (hq : rdPols w.heap.size (hide w G) qa C.pols) (hpc : C.pods.length ≤ pc) (hqc : C.pols.length ≤ qc) (ht : w.heap[tb]? = some (.cells #[u0, u1, u2] 94 (0, 0))) (hT : TabC w.heap.size (hide w G) u0 u1 u2 C) (hr : (right C).1 = 0) (hGt : G tb = true) (hGl : ∀ b, G b = true → b < w.heap.size) (hi : i64 raw) (h0 : ¬ 0 ≤ raw) (hk : pk raw (C.pols.length : Int) = (k : Int)) (hkl : k < C.pols.length) :
    Calls Tryz.prog 26 #[.agg #[.slice pa C.pods.length pc, .slice qa C.pols.length qc], .int .i64 raw, .pointer (some ⟨tb, 0, none⟩)] w (FwOk G tb ⟨C.pods, C.pols.take k ++ C.pols.drop (k + 1)⟩ w) := by
  obtain ⟨l1, l2⟩ := right_lens hr
  obtain ⟨R, hR, hrd, hok⟩ := pols_cells hq
  have hRl : R.length = C.pols.length := by rw [← hR, List.length_map]
  rw [← hRl] at hk
  have z2 : ¬ (R.length : Int) = 0 := by omega
  have z3 : (k : Int) ≤ (qc : Int) := by omega
  have z4 : (k : Int) + 1 ≤ (R.length : Int) := by omega
  have z5 : 0 ≤ (k : Int) := by omega
  have z6 : 0 ≤ (k : Int) + 1 := by omega
  have z7 : (k : Int) < (R.length : Int) := by omega
  have z8 : IntKind.i64.wrap ((k : Int) + 1) = (k : Int) + 1 := by rw [IntKind.wrap_i64]; omega
  have z9 : ((k : Int) + 1).toNat = k + 1 := by omega
  have HPICK := hid (show ∀ W, Calls Tryz.prog 22 #[.int .i64 raw, .int .i64 (R.length : Int)] W fun e w' => e = .returned (.int .i64 (k : Int)) ∧ w' = W from fun W => by rw [← hk]; exact pick_any raw _ W hi (by omega) (by omega))
  obtain ⟨ip0, hip, ipz0, ipz1, ipz2⟩ := info_parts info_pol
  obtain ⟨b, off, rfl, hbl⟩ : ∃ b off, qa = some ⟨b, off, none⟩ ∧ b < w.heap.size := by
    obtain ⟨b, off, e, hb, _⟩ := hrd.2 k R[k] (List.getElem?_eq_getElem (by omega))
    exact ⟨b, off, e, hb⟩
  obtain ⟨D, hD⟩ : ∃ D, D = R.take k ++ R.drop (k + 1) := ⟨_, rfl⟩
  have hDl : D.length + 1 = R.length := by rw [hD]; simp; omega
  have hDM : D.map (·.d) = C.pols.take k ++ C.pols.drop (k + 1) := by rw [hD, List.map_append, List.map_take, List.map_drop, hR]
  have HDO := hid (show ∀ r ∈ D, r.ok w.heap.size (hide w G) from fun r hr => by
    rw [hD] at hr
    rcases List.mem_append.1 hr with hr | hr
    · exact hok r (List.mem_of_mem_take hr)
    · exact hok r (List.mem_of_mem_drop hr))
  obtain ⟨M, hM⟩ : ∃ M : List DPol, M = C.pols.take k ++ C.pols.drop (k + 1) := ⟨_, rfl⟩
  rw [← hM]
  have E5 := hid (show M = D.map (·.d) by rw [hM, hDM])
  have HTL := hid (show tb < w.heap.size from (Array.getElem?_eq_some_iff.1 ht).1)
  have HRR := hid (show (right ⟨C.pods, M⟩).1 = 0 by rw [hM, right_dropPol hr])
  have HDROP := hid (show ∀ Z, Below w.heap.size w Z → Calls Tryz.prog 44 #[.pointer (some ⟨tb, 0, none⟩), .int .i64 (k : Int)] Z fun e w' => e = .returned (.int .i64 0) ∧ ∃ u0 u1 u2, w'.heap[tb]? = some (.cells #[u0, u1, u2] 94 (0, 0)) ∧ TabC w'.heap.size (hide w' (low Z.heap.size)) u0 u1 u2 ⟨C.pods, M⟩ ∧ Z.grownBy w' (some tb) from fun Z hb => by
    obtain ⟨r, vs, ta, tq, tpc, tqc, rfl, rfl, rfl, _, h5, h6, rp, rq, _⟩ := hT
    refine (dropPol_some k tb _ C ta tq tpc tqc Z ((hb.block tb (Array.getElem?_eq_some_iff.1 ht).1).trans ht) (rdPods.sub (sub_in hb) hb.size rp) (rdPols.sub (sub_in hb) hb.size rq) h5 h6 hr hkl).mono ?_
    rw [← hM]
    rintro e w' ⟨he, hc⟩
    obtain ⟨⟨v0, v1, v2, h1, h2⟩, h3⟩ := hc.1 HRR.out
    exact ⟨he, v0, v1, v2, h1, h2, h3⟩)
  have HD := hid hD
  have HRD := hid hrd
  have HOK := hid hok
  have HP := hid hp
  have HT := hid ht
  have HTC := hid hT
  have HGT := hid hGt
  have HGL := hid hGl
  have HRL := hid hRl
  have hq4 : R.length ≤ 4 := by omega
  have hqcR : R.length ≤ qc := by omega
  rw [← hRl]
  clear hp hq ht hT hr hGt hGl hD hDM hM hrd hok hk hi hRl hR
  go_enter Tryz.func26, Tryz.ntmps26
  go_wp2_with (go_at_call 22; refine (HPICK.out _).mono ?_; rintro e w' ⟨rfl, rfl⟩)
  generalize hW : (((w.alloc (.cells #[.slice pa C.pods.length pc, .slice (some ⟨b, off, none⟩) R.length qc] 28)).alloc (.cells #[.slice none 0 0, .slice none 0 0] 28)).alloc (.cells #[.slice none 0 0, .slice none 0 0] 28)) = W
  have HSW := hid (show W.heap.size = w.heap.size + 3 by rw [← hW]; simp)
  have HBW := hid (show Below w.heap.size w W from by rw [← hW]; exact (by repeat (first | exact Below.refl _ _ | assumption | apply Ext.alloc | apply Ext.drewN | apply Ext.drew | refine Ext.trans ?_ (by assumption))))
  have KC := hid (show W.heap[w.heap.size]? = some (.cells #[.slice pa C.pods.length pc, .slice (some ⟨b, off, none⟩) R.length qc] 28 (0, 0)) from by rw [← hW]; exact (Below.heap_alloc _ _ _ (by simp only [World.size_alloc]; omega)).trans ((Below.heap_alloc _ _ _ (by simp)).trans (new_heap _ _)))
  have KR := hid (show W.heap[w.heap.size + 1]? = some (.cells #[.slice none 0 0, .slice none 0 0] 28 (0, 0)) from by
    rw [← hW]
    have := new_heap (w.alloc (.cells #[.slice pa C.pods.length pc, .slice (some ⟨b, off, none⟩) R.length qc] 28)) (.cells #[.slice none 0 0, .slice none 0 0] 28)
    simp only [World.size_alloc] at this
    exact (Below.heap_alloc _ _ _ (by simp)).trans this)
  have KX := hid (show W.heap[w.heap.size + 1 + 1]? = some (.cells #[.slice none 0 0, .slice none 0 0] 28 (0, 0)) from by
    rw [← hW]
    have := new_heap ((w.alloc (.cells #[.slice pa C.pods.length pc, .slice (some ⟨b, off, none⟩) R.length qc] 28)).alloc (.cells #[.slice none 0 0, .slice none 0 0] 28)) (.cells #[.slice none 0 0, .slice none 0 0] 28)
    simp only [World.size_alloc] at this
    exact this)
  clear hW
  have HS0 : W.drew.cell? ⟨w.heap.size + 1 + 1, 1, none⟩ = some (.slice none 0 0) ∧ W.drew.cell? ⟨w.heap.size, 1, none⟩ = some (.slice (some ⟨b, off, none⟩) R.length qc) := ⟨(blk_cell KX.out 1).trans rfl, (blk_cell KC.out 1).trans rfl⟩
  have HPW := hid (show RdSl W.heap.size W.drew 6 80 (eCells encPol) (some ⟨b, off, none⟩) R from cells_ext ((Below.refl W.heap.size W).drew) (Nat.le_refl _) (cells_sub (sub_in HBW.out) HBW.out.size HRD.out))
  refine wp_region_held_tail (S := (fun w' : World => w'.cell? ⟨w.heap.size + 1 + 1, 1, none⟩ = some (.slice none 0 0) ∧ w'.cell? ⟨w.heap.size, 1, none⟩ = some (.slice (some ⟨b, off, none⟩) R.length qc))) 7 (by kernel_rfl) (by kernel_rfl) ?_
  simp only [takes_7, drops_7]
  have hS0 : (fun w' : World => w'.cell? ⟨w.heap.size + 1 + 1, 1, none⟩ = some (.slice none 0 0) ∧ w'.cell? ⟨w.heap.size, 1, none⟩ = some (.slice (some ⟨b, off, none⟩) R.length qc)) W.drew := HS0
  refine htake_0 (.pointer (some ⟨w.heap.size + 1 + 1, 1, none⟩)) (by kernel_rfl) (by kernel_rfl) (by kernel_rfl) rfl (fun _ _ _ h => h) (fun w' hSw => by (obtain ⟨s0, s1⟩ := hSw; go_simp)) hS0 ?_
  try simp only [Act.put, List.setIfInBounds_toArray, List.set_cons_zero, List.set_cons_succ]
  refine htake_1 (.slice none 0 0) (by kernel_rfl) (by kernel_rfl) (by kernel_rfl) rfl (fun _ _ _ h => h) (fun w' hSw => by (obtain ⟨s0, s1⟩ := hSw; go_simp)) hS0 ?_
  try simp only [Act.put, List.setIfInBounds_toArray, List.set_cons_zero, List.set_cons_succ]
  refine htake_2 (.pointer (some ⟨w.heap.size, 1, none⟩)) (by kernel_rfl) (by kernel_rfl) (by kernel_rfl) rfl (fun _ _ _ h => h) (fun w' hSw => by (obtain ⟨s0, s1⟩ := hSw; go_simp)) hS0 ?_
  try simp only [Act.put, List.setIfInBounds_toArray, List.set_cons_zero, List.set_cons_succ]
  refine htake_3 (.slice (some ⟨b, off, none⟩) R.length qc) (by kernel_rfl) (by kernel_rfl) (by kernel_rfl) rfl (fun _ _ _ h => h) (fun w' hSw => by (obtain ⟨s0, s1⟩ := hSw; go_simp)) hS0 ?_
  try simp only [Act.put, List.setIfInBounds_toArray, List.set_cons_zero, List.set_cons_succ]
  refine htake_4 (.int .i64 (k : Int)) (by kernel_rfl) (by kernel_rfl) (by kernel_rfl) rfl (fun _ _ _ h => h) (fun w' hSw => by (obtain ⟨s0, s1⟩ := hSw; go_simp)) hS0 ?_
  try simp only [Act.put, List.setIfInBounds_toArray, List.set_cons_zero, List.set_cons_succ]
  refine htake_5 (.slice (some ⟨b, off, none⟩) k qc) (by kernel_rfl) (by kernel_rfl) (by kernel_rfl) rfl (fun _ _ _ h => h) (fun w' hSw => by (obtain ⟨s0, s1⟩ := hSw; go_simp)) hS0 ?_
  try simp only [Act.put, List.setIfInBounds_toArray, List.set_cons_zero, List.set_cons_succ]
  refine hone_6 (by kernel_rfl) rfl (fun K hK => ?_)
  refine wp_append_list _ (.tmp 73) (.tmp 77) 26 rfl W.heap.size 59 ip0 _ 6 80 Tryz.underlying26 hip ipz0 ipz1 ipz2 rfl (by decide) (.slice none 0 0) 0 [] rfl (World.ownsRow_nil _ _ _ _) (some ⟨b, off, none⟩) k qc ((R.take k).flatMap encPol) rfl ((oflat_len (k := 6) (fun _ => rfl) _).trans (by rw [List.length_take]; congr 1; omega)) (news_of (k := 6) (fun _ => rfl) (by decide) (rd_take HPW.out k) (fun _ _ _ h => h)) (encPols_ones (B := w.heap.size) (w := hide w G) (fun r hr => HOK.out r (List.mem_of_mem_take hr))) (by unfold maxLen; omega) (by omega) (Nat.le_refl _) ?_
  intro v3 w3 hown3 hg3
  rw [Nat.zero_add, List.nil_append] at hown3
  obtain ⟨a3, c3, rfl, hc3, _⟩ := own_slice hown3
  have HO3 := hid hown3
  have HB3 := hid (show Below W.heap.size W w3 from ⟨hg3.os, hg3.tape, hg3.output, hg3.size, fun b hb => hg3.block b hb (by simp [Value.ownBlock])⟩)
  have KX3 := hid ((HB3.out.block (w.heap.size + 1 + 1) (by have := HSW.out; omega)).trans KX.out)
  have KC3 := hid ((HB3.out.block w.heap.size (by have := HSW.out; omega)).trans KC.out)
  have KR3 := hid ((HB3.out.block (w.heap.size + 1) (by have := HSW.out; omega)).trans KR.out)
  have t0 : w3.cell? ⟨w.heap.size + 1 + 1, 1, none⟩ = some (.slice none 0 0) := (blk_cell KX3.out 1).trans rfl
  have t1 : w3.cell? ⟨w.heap.size, 1, none⟩ = some (.slice (some ⟨b, off, none⟩) R.length qc) := (blk_cell KC3.out 1).trans rfl
  have tf := blk_frozen KX3.out
  clear hown3 hg3
  refine hK _ _ ⟨t0, t1⟩ ?_
  refine wpAnyH_done (by kernel_rfl) ?_ _
  show wpList _ _ _ _ _ _
  try simp only [Act.put, List.setIfInBounds_toArray, List.set_cons_zero, List.set_cons_succ]
  clear hK hS0 HS0
  go_wp2_with fail
  have KX4 := hid (show (w3.setCell ⟨w.heap.size + 1 + 1, 1, none⟩ (.slice a3 k c3)).heap[w.heap.size + 1 + 1]? = some (.cells #[.slice none 0 0, .slice a3 k c3] 28 (0, 0)) from (set_blk KX3.out 1 (.slice a3 k c3)).trans rfl)
  have KC4 := hid ((Below.heap_setCell w3 ⟨w.heap.size + 1 + 1, 1, none⟩ (.slice a3 k c3) w.heap.size (by show _ ≠ w.heap.size + 1 + 1; omega)).trans KC3.out)
  have KR4 := hid ((Below.heap_setCell w3 ⟨w.heap.size + 1 + 1, 1, none⟩ (.slice a3 k c3) (w.heap.size + 1) (by show _ ≠ w.heap.size + 1 + 1; omega)).trans KR3.out)
  have HO4 := hid (row_set HO3.out ⟨w.heap.size + 1 + 1, 1, none⟩ (.slice a3 k c3) (by show w.heap.size + 1 + 1 < _; have := HSW.out; omega))
  have HB4 := hid (show Below w.heap.size w (w3.setCell ⟨w.heap.size + 1 + 1, 1, none⟩ (.slice a3 k c3)) from (Ext.trans HBW.out HB3.out).setCell (by show w.heap.size ≤ w.heap.size + 1 + 1; omega) _)
  have HW4 := hid (show W.heap.size ≤ (w3.setCell ⟨w.heap.size + 1 + 1, 1, none⟩ (.slice a3 k c3)).heap.size by rw [World.size_setCell]; exact HB3.out.size)
  generalize w3.setCell ⟨w.heap.size + 1 + 1, 1, none⟩ (.slice a3 k c3) = X at KX4 KC4 KR4 HO4 HB4 HW4 ⊢
  clear t0 t1 tf
  have HS0 : X.drew.cell? ⟨w.heap.size + 1 + 1, 1, none⟩ = some (.slice a3 k c3) ∧ X.drew.cell? ⟨w.heap.size, 1, none⟩ = some (.slice (some ⟨b, off, none⟩) R.length qc) := ⟨(blk_cell KX4.out 1).trans rfl, (blk_cell KC4.out 1).trans rfl⟩
  have HPX := hid (show RdSl X.heap.size X.drew 6 80 (eCells encPol) (some ⟨b, off, none⟩) R from cells_ext ((Below.refl X.heap.size X).drew) (Nat.le_refl _) (cells_sub (sub_in HB4.out) HB4.out.size HRD.out))
  have hc3' : k ≤ c3 := hc3
  by_cases hqk : qc = k + 1
  · have HQK := hid hqk
    have HD0 := hid (show R.drop (k + 1) = [] from List.drop_eq_nil_of_le (by omega))
    clear hqk
    refine wp_region_held_tail (S := (fun w' : World => w'.cell? ⟨w.heap.size + 1 + 1, 1, none⟩ = some (.slice a3 k c3) ∧ w'.cell? ⟨w.heap.size, 1, none⟩ = some (.slice (some ⟨b, off, none⟩) R.length qc))) 8 (by kernel_rfl) (by kernel_rfl) ?_
    simp only [takes_8, drops_8]
    have hS0 : (fun w' : World => w'.cell? ⟨w.heap.size + 1 + 1, 1, none⟩ = some (.slice a3 k c3) ∧ w'.cell? ⟨w.heap.size, 1, none⟩ = some (.slice (some ⟨b, off, none⟩) R.length qc)) X.drew := HS0
    refine htake_0 (.pointer (some ⟨w.heap.size + 1 + 1, 1, none⟩)) (by kernel_rfl) (by kernel_rfl) (by kernel_rfl) rfl (fun _ _ _ h => h) (fun w' hSw => by (obtain ⟨s0, s1⟩ := hSw; go_simp)) hS0 ?_
    try simp only [Act.put, List.setIfInBounds_toArray, List.set_cons_zero, List.set_cons_succ]
    refine htake_1 (.slice a3 k c3) (by kernel_rfl) (by kernel_rfl) (by kernel_rfl) rfl (fun _ _ _ h => h) (fun w' hSw => by (obtain ⟨s0, s1⟩ := hSw; go_simp)) hS0 ?_
    try simp only [Act.put, List.setIfInBounds_toArray, List.set_cons_zero, List.set_cons_succ]
    refine htake_2 (.pointer (some ⟨w.heap.size, 1, none⟩)) (by kernel_rfl) (by kernel_rfl) (by kernel_rfl) rfl (fun _ _ _ h => h) (fun w' hSw => by (obtain ⟨s0, s1⟩ := hSw; go_simp)) hS0 ?_
    try simp only [Act.put, List.setIfInBounds_toArray, List.set_cons_zero, List.set_cons_succ]
    refine htake_3 (.slice (some ⟨b, off, none⟩) R.length qc) (by kernel_rfl) (by kernel_rfl) (by kernel_rfl) rfl (fun _ _ _ h => h) (fun w' hSw => by (obtain ⟨s0, s1⟩ := hSw; go_simp)) hS0 ?_
    try simp only [Act.put, List.setIfInBounds_toArray, List.set_cons_zero, List.set_cons_succ]
    refine htake_4 (.int .i64 (k : Int)) (by kernel_rfl) (by kernel_rfl) (by kernel_rfl) rfl (fun _ _ _ h => h) (fun w' hSw => by (obtain ⟨s0, s1⟩ := hSw; go_simp)) hS0 ?_
    try simp only [Act.put, List.setIfInBounds_toArray, List.set_cons_zero, List.set_cons_succ]
    refine htake_5 (.int .i64 ((k : Int) + 1)) (by kernel_rfl) (by kernel_rfl) (by kernel_rfl) rfl (fun _ _ _ h => h) (fun w' hSw => by (obtain ⟨s0, s1⟩ := hSw; go_simp)) hS0 ?_
    try simp only [Act.put, List.setIfInBounds_toArray, List.set_cons_zero, List.set_cons_succ]
    refine htake_6 (.slice (some ⟨b, off, none⟩) (R.length - (k + 1)) (qc - (k + 1))) (by kernel_rfl) (by kernel_rfl) (by kernel_rfl) rfl (fun _ _ _ h => h) (fun w' hSw => by (obtain ⟨s0, s1⟩ := hSw; have eq := HQK.out; go_simp)) hS0 ?_
    try simp only [Act.put, List.setIfInBounds_toArray, List.set_cons_zero, List.set_cons_succ]
    refine hone_7 (by kernel_rfl) rfl (fun K hK => ?_)
    refine wp_append_list _ (.tmp 81) (.tmp 86) 26 rfl W.heap.size 59 ip0 _ 6 80 Tryz.underlying26 hip ipz0 ipz1 ipz2 rfl (by decide) (.slice a3 k c3) k ((R.take k).flatMap encPol) rfl (own_to HO4.out ((Below.refl _ X).drew)) (some ⟨b, off, none⟩) (R.length - (k + 1)) (qc - (k + 1)) ((R.drop (k + 1)).flatMap encPol) rfl ((oflat_len (k := 6) (fun _ => rfl) _).trans (by rw [List.length_drop])) (news_of (k := 6) (fun _ => rfl) (by decide) (show RdSl X.heap.size X.drew 6 80 (eCells encPol) (some ⟨b, off, none⟩) (R.drop (k + 1)) by rw [HD0.out]; exact rd_nil _ _ _ _ _ _) (fun _ _ _ h => h)) (encPols_ones (B := w.heap.size) (w := hide w G) (fun r hr => HOK.out r (List.mem_of_mem_drop hr))) (by unfold maxLen; omega) (by omega) HW4.out ?_
    intro v5 w5 hown5 hg5
    rw [← List.flatMap_append, ← HD.out, show k + (R.length - (k + 1)) = D.length by omega] at hown5
    obtain ⟨a5, c5, rfl, hc5, _⟩ := own_slice hown5
    have HO5 := hid hown5
    have HB5 := hid (show Below W.heap.size X w5 from ⟨hg5.os, hg5.tape, hg5.output, hg5.size, fun b hb => hg5.block b (Nat.lt_of_lt_of_le hb HW4.out) (fun e => by have := (HO4.out.lt _ e.symm).1; omega)⟩)
    have KX5 := hid ((HB5.out.block (w.heap.size + 1 + 1) (by have := HSW.out; omega)).trans KX4.out)
    have KC5 := hid ((HB5.out.block w.heap.size (by have := HSW.out; omega)).trans KC4.out)
    have KR5 := hid ((HB5.out.block (w.heap.size + 1) (by have := HSW.out; omega)).trans KR4.out)
    have HBw5 := hid (show Below w.heap.size w w5 from HB4.out.trans (HB5.out.mono (by have := HSW.out; omega)))
    have x0 : w5.cell? ⟨w.heap.size + 1 + 1, 1, none⟩ = some (.slice a3 k c3) := (blk_cell KX5.out 1).trans rfl
    have x1 : w5.cell? ⟨w.heap.size + 1 + 1, 0, none⟩ = some (.slice none 0 0) := (blk_cell KX5.out 0).trans rfl
    have xf := blk_frozen KX5.out
    have c0 : w5.cell? ⟨w.heap.size, 1, none⟩ = some (.slice (some ⟨b, off, none⟩) R.length qc) := (blk_cell KC5.out 1).trans rfl
    have c1 : w5.cell? ⟨w.heap.size, 0, none⟩ = some (.slice pa C.pods.length pc) := (blk_cell KC5.out 0).trans rfl
    clear hown5 hg5
    refine hK _ _ ⟨x0, c0⟩ ?_
    refine wpAnyH_done (by kernel_rfl) ?_ _
    show wpList _ _ _ _ _ _
    try simp only [Act.put, List.setIfInBounds_toArray, List.set_cons_zero, List.set_cons_succ]
    clear hK hS0 HS0
    go_wp2_with fail
    have KXZ := hid (show ((w5.setCell ⟨w.heap.size + 1 + 1, 1, none⟩ (.slice a5 D.length c5)).setCell ⟨w.heap.size + 1 + 1, 0, none⟩ (.slice pa C.pods.length pc)).heap[w.heap.size + 1 + 1]? = some (.cells #[.slice pa C.pods.length pc, .slice a5 D.length c5] 28 (0, 0)) from (set_blk (set_blk KX5.out 1 (.slice a5 D.length c5)) 0 (.slice pa C.pods.length pc)).trans rfl)
    have KRZ := hid ((Below.heap_setCell (w5.setCell ⟨w.heap.size + 1 + 1, 1, none⟩ (.slice a5 D.length c5)) ⟨w.heap.size + 1 + 1, 0, none⟩ (.slice pa C.pods.length pc) (w.heap.size + 1) (by show _ ≠ w.heap.size + 1 + 1; omega)).trans ((Below.heap_setCell w5 ⟨w.heap.size + 1 + 1, 1, none⟩ (.slice a5 D.length c5) (w.heap.size + 1) (by show _ ≠ w.heap.size + 1 + 1; omega)).trans KR5.out))
    have HOZ := hid (row_set (row_set HO5.out ⟨w.heap.size + 1 + 1, 1, none⟩ (.slice a5 D.length c5) (by show w.heap.size + 1 + 1 < _; have := HSW.out; omega)) ⟨w.heap.size + 1 + 1, 0, none⟩ (.slice pa C.pods.length pc) (by show w.heap.size + 1 + 1 < _; have := HSW.out; omega))
    have HBZ := hid (show Below w.heap.size w ((w5.setCell ⟨w.heap.size + 1 + 1, 1, none⟩ (.slice a5 D.length c5)).setCell ⟨w.heap.size + 1 + 1, 0, none⟩ (.slice pa C.pods.length pc)) from (HBw5.out.setCell (by show w.heap.size ≤ w.heap.size + 1 + 1; omega) _).setCell (by show w.heap.size ≤ w.heap.size + 1 + 1; omega) _)
    have HWZ := hid (show W.heap.size ≤ ((w5.setCell ⟨w.heap.size + 1 + 1, 1, none⟩ (.slice a5 D.length c5)).setCell ⟨w.heap.size + 1 + 1, 0, none⟩ (.slice pa C.pods.length pc)).heap.size by rw [World.size_setCell, World.size_setCell]; exact Nat.le_trans HW4.out HB5.out.size)
    generalize (w5.setCell ⟨w.heap.size + 1 + 1, 1, none⟩ (.slice a5 D.length c5)).setCell ⟨w.heap.size + 1 + 1, 0, none⟩ (.slice pa C.pods.length pc) = Z at KXZ KRZ HOZ HBZ HWZ ⊢
    clear x0 x1 xf c0 c1
    refine (HDROP.out Z HBZ.out).mono ?_
    rintro e w6 ⟨rfl, t0, t1, t2, ht6, hT6, hg6⟩
    have HT6 := hid ht6
    have HTC6 := hid hT6
    have HG6 := hid hg6
    have KX6 := hid ((hg6.block (w.heap.size + 1 + 1) (by have := HSW.out; have := HWZ.out; omega) (fun e => by cases e; have := HTL.out; omega)).trans KXZ.out)
    have KR6 := hid ((hg6.block (w.heap.size + 1) (by have := HSW.out; have := HWZ.out; omega) (fun e => by cases e; have := HTL.out; omega)).trans KRZ.out)
    have y0 : w6.cell? ⟨w.heap.size + 1 + 1, 1, none⟩ = some (.slice a5 D.length c5) := (blk_cell KX6.out 1).trans rfl
    have y1 : w6.cell? ⟨w.heap.size + 1 + 1, 0, none⟩ = some (.slice pa C.pods.length pc) := (blk_cell KX6.out 0).trans rfl
    have r0 : w6.cell? ⟨w.heap.size + 1, 0, none⟩ = some (.slice none 0 0) := (blk_cell KR6.out 0).trans rfl
    have r1 : w6.cell? ⟨w.heap.size + 1, 1, none⟩ = some (.slice none 0 0) := (blk_cell KR6.out 1).trans rfl
    have rf := blk_frozen KR6.out
    clear ht6 hT6 hg6
    go_wp2
    have HWS := hid (FwWs.set (v := .slice pa C.pods.length pc) (v' := .slice a5 D.length c5) HBZ.out HG6.out (show w.heap.size ≤ w.heap.size + 1 by omega) (show w.heap.size + 1 < W.heap.size by have := HSW.out; omega) HWZ.out HTL.out)
    have KRF := (set_blk (set_blk KR6.out 0 (.slice pa C.pods.length pc)) 1 (.slice a5 D.length c5))
    have g0 := (blk_cell KRF 0).trans rfl
    have g1 := (blk_cell KRF 1).trans rfl
    generalize (w6.setCell ⟨w.heap.size + 1, 0, none⟩ (.slice pa C.pods.length pc)).setCell ⟨w.heap.size + 1, 1, none⟩ (.slice a5 D.length c5) = F at HWS g0 g1 ⊢
    refine bodyPost_ret (v := .tuple #[.agg #[.slice pa C.pods.length pc, .slice a5 D.length c5], .bool true]) (by simp [results, Tryz.results26, go_sem, g0, g1]) rfl ?_
    obtain ⟨a', c', e', _, hrd⟩ := own_pols (w0 := hide w G) (HWS.out.own HGL.out HOZ.out) (by omega) (HWS.out.belowH HGT.out) (by rw [hide_size]; exact HDO.out)
    injection e' with e1 e2 e3
    subst e1
    rw [hide_size] at hrd
    exact ⟨pa, pc, a5, c5, t0, t1, t2, by rw [E5.out, List.length_map], ⟨hpc, by rw [E5.out, List.length_map]; exact hc5⟩, rdPods.sub (HWS.out.old HGT.out) HWS.out.frame.size HP.out, by rw [E5.out]; exact hrd, HWS.out.at HT6.out, HWS.out.tab HGL.out HTC6.out, HWS.out.frame⟩
  · have hqk2 : ¬ qc = k + 1 := hqk
    refine wp_region_held_tail (S := (fun w' : World => w'.cell? ⟨w.heap.size + 1 + 1, 1, none⟩ = some (.slice a3 k c3) ∧ w'.cell? ⟨w.heap.size, 1, none⟩ = some (.slice (some ⟨b, off, none⟩) R.length qc))) 8 (by kernel_rfl) (by kernel_rfl) ?_
    simp only [takes_8, drops_8]
    have hS0 : (fun w' : World => w'.cell? ⟨w.heap.size + 1 + 1, 1, none⟩ = some (.slice a3 k c3) ∧ w'.cell? ⟨w.heap.size, 1, none⟩ = some (.slice (some ⟨b, off, none⟩) R.length qc)) X.drew := HS0
    refine htake_0 (.pointer (some ⟨w.heap.size + 1 + 1, 1, none⟩)) (by kernel_rfl) (by kernel_rfl) (by kernel_rfl) rfl (fun _ _ _ h => h) (fun w' hSw => by (obtain ⟨s0, s1⟩ := hSw; go_simp)) hS0 ?_
    try simp only [Act.put, List.setIfInBounds_toArray, List.set_cons_zero, List.set_cons_succ]
    refine htake_1 (.slice a3 k c3) (by kernel_rfl) (by kernel_rfl) (by kernel_rfl) rfl (fun _ _ _ h => h) (fun w' hSw => by (obtain ⟨s0, s1⟩ := hSw; go_simp)) hS0 ?_
    try simp only [Act.put, List.setIfInBounds_toArray, List.set_cons_zero, List.set_cons_succ]
    refine htake_2 (.pointer (some ⟨w.heap.size, 1, none⟩)) (by kernel_rfl) (by kernel_rfl) (by kernel_rfl) rfl (fun _ _ _ h => h) (fun w' hSw => by (obtain ⟨s0, s1⟩ := hSw; go_simp)) hS0 ?_
    try simp only [Act.put, List.setIfInBounds_toArray, List.set_cons_zero, List.set_cons_succ]
    refine htake_3 (.slice (some ⟨b, off, none⟩) R.length qc) (by kernel_rfl) (by kernel_rfl) (by kernel_rfl) rfl (fun _ _ _ h => h) (fun w' hSw => by (obtain ⟨s0, s1⟩ := hSw; go_simp)) hS0 ?_
    try simp only [Act.put, List.setIfInBounds_toArray, List.set_cons_zero, List.set_cons_succ]
    refine htake_4 (.int .i64 (k : Int)) (by kernel_rfl) (by kernel_rfl) (by kernel_rfl) rfl (fun _ _ _ h => h) (fun w' hSw => by (obtain ⟨s0, s1⟩ := hSw; go_simp)) hS0 ?_
    try simp only [Act.put, List.setIfInBounds_toArray, List.set_cons_zero, List.set_cons_succ]
    refine htake_5 (.int .i64 ((k : Int) + 1)) (by kernel_rfl) (by kernel_rfl) (by kernel_rfl) rfl (fun _ _ _ h => h) (fun w' hSw => by (obtain ⟨s0, s1⟩ := hSw; go_simp)) hS0 ?_
    try simp only [Act.put, List.setIfInBounds_toArray, List.set_cons_zero, List.set_cons_succ]
    refine htake_6 (.slice (some ⟨b, off + (k + 1) * 6, none⟩) (R.length - (k + 1)) (qc - (k + 1))) (by kernel_rfl) (by kernel_rfl) (by kernel_rfl) rfl (fun _ _ _ h => h) (fun w' hSw => by (obtain ⟨s0, s1⟩ := hSw; go_simp)) hS0 ?_
    try simp only [Act.put, List.setIfInBounds_toArray, List.set_cons_zero, List.set_cons_succ]
    refine hone_7 (by kernel_rfl) rfl (fun K hK => ?_)
    refine wp_append_list _ (.tmp 81) (.tmp 86) 26 rfl W.heap.size 59 ip0 _ 6 80 Tryz.underlying26 hip ipz0 ipz1 ipz2 rfl (by decide) (.slice a3 k c3) k ((R.take k).flatMap encPol) rfl (own_to HO4.out ((Below.refl _ X).drew)) (some ⟨b, off + (k + 1) * 6, none⟩) (R.length - (k + 1)) (qc - (k + 1)) ((R.drop (k + 1)).flatMap encPol) rfl ((oflat_len (k := 6) (fun _ => rfl) _).trans (by rw [List.length_drop])) (news_of (k := 6) (fun _ => rfl) (by decide) (rd_drop HPX.out (k + 1)) (fun _ _ _ h => h)) (encPols_ones (B := w.heap.size) (w := hide w G) (fun r hr => HOK.out r (List.mem_of_mem_drop hr))) (by unfold maxLen; omega) (by omega) HW4.out ?_
    intro v5 w5 hown5 hg5
    rw [← List.flatMap_append, ← HD.out, show k + (R.length - (k + 1)) = D.length by omega] at hown5
    obtain ⟨a5, c5, rfl, hc5, _⟩ := own_slice hown5
    have HO5 := hid hown5
    have HB5 := hid (show Below W.heap.size X w5 from ⟨hg5.os, hg5.tape, hg5.output, hg5.size, fun b hb => hg5.block b (Nat.lt_of_lt_of_le hb HW4.out) (fun e => by have := (HO4.out.lt _ e.symm).1; omega)⟩)
    have KX5 := hid ((HB5.out.block (w.heap.size + 1 + 1) (by have := HSW.out; omega)).trans KX4.out)
    have KC5 := hid ((HB5.out.block w.heap.size (by have := HSW.out; omega)).trans KC4.out)
    have KR5 := hid ((HB5.out.block (w.heap.size + 1) (by have := HSW.out; omega)).trans KR4.out)
    have HBw5 := hid (show Below w.heap.size w w5 from HB4.out.trans (HB5.out.mono (by have := HSW.out; omega)))
    have x0 : w5.cell? ⟨w.heap.size + 1 + 1, 1, none⟩ = some (.slice a3 k c3) := (blk_cell KX5.out 1).trans rfl
    have x1 : w5.cell? ⟨w.heap.size + 1 + 1, 0, none⟩ = some (.slice none 0 0) := (blk_cell KX5.out 0).trans rfl
    have xf := blk_frozen KX5.out
    have c0 : w5.cell? ⟨w.heap.size, 1, none⟩ = some (.slice (some ⟨b, off, none⟩) R.length qc) := (blk_cell KC5.out 1).trans rfl
    have c1 : w5.cell? ⟨w.heap.size, 0, none⟩ = some (.slice pa C.pods.length pc) := (blk_cell KC5.out 0).trans rfl
    clear hown5 hg5
    refine hK _ _ ⟨x0, c0⟩ ?_
    refine wpAnyH_done (by kernel_rfl) ?_ _
    show wpList _ _ _ _ _ _
    try simp only [Act.put, List.setIfInBounds_toArray, List.set_cons_zero, List.set_cons_succ]
    clear hK hS0 HS0
    go_wp2_with fail
    have KXZ := hid (show ((w5.setCell ⟨w.heap.size + 1 + 1, 1, none⟩ (.slice a5 D.length c5)).setCell ⟨w.heap.size + 1 + 1, 0, none⟩ (.slice pa C.pods.length pc)).heap[w.heap.size + 1 + 1]? = some (.cells #[.slice pa C.pods.length pc, .slice a5 D.length c5] 28 (0, 0)) from (set_blk (set_blk KX5.out 1 (.slice a5 D.length c5)) 0 (.slice pa C.pods.length pc)).trans rfl)
    have KRZ := hid ((Below.heap_setCell (w5.setCell ⟨w.heap.size + 1 + 1, 1, none⟩ (.slice a5 D.length c5)) ⟨w.heap.size + 1 + 1, 0, none⟩ (.slice pa C.pods.length pc) (w.heap.size + 1) (by show _ ≠ w.heap.size + 1 + 1; omega)).trans ((Below.heap_setCell w5 ⟨w.heap.size + 1 + 1, 1, none⟩ (.slice a5 D.length c5) (w.heap.size + 1) (by show _ ≠ w.heap.size + 1 + 1; omega)).trans KR5.out))
    have HOZ := hid (row_set (row_set HO5.out ⟨w.heap.size + 1 + 1, 1, none⟩ (.slice a5 D.length c5) (by show w.heap.size + 1 + 1 < _; have := HSW.out; omega)) ⟨w.heap.size + 1 + 1, 0, none⟩ (.slice pa C.pods.length pc) (by show w.heap.size + 1 + 1 < _; have := HSW.out; omega))
    have HBZ := hid (show Below w.heap.size w ((w5.setCell ⟨w.heap.size + 1 + 1, 1, none⟩ (.slice a5 D.length c5)).setCell ⟨w.heap.size + 1 + 1, 0, none⟩ (.slice pa C.pods.length pc)) from (HBw5.out.setCell (by show w.heap.size ≤ w.heap.size + 1 + 1; omega) _).setCell (by show w.heap.size ≤ w.heap.size + 1 + 1; omega) _)
    have HWZ := hid (show W.heap.size ≤ ((w5.setCell ⟨w.heap.size + 1 + 1, 1, none⟩ (.slice a5 D.length c5)).setCell ⟨w.heap.size + 1 + 1, 0, none⟩ (.slice pa C.pods.length pc)).heap.size by rw [World.size_setCell, World.size_setCell]; exact Nat.le_trans HW4.out HB5.out.size)
    generalize (w5.setCell ⟨w.heap.size + 1 + 1, 1, none⟩ (.slice a5 D.length c5)).setCell ⟨w.heap.size + 1 + 1, 0, none⟩ (.slice pa C.pods.length pc) = Z at KXZ KRZ HOZ HBZ HWZ ⊢
    clear x0 x1 xf c0 c1
    refine (HDROP.out Z HBZ.out).mono ?_
    rintro e w6 ⟨rfl, t0, t1, t2, ht6, hT6, hg6⟩
    have HT6 := hid ht6
    have HTC6 := hid hT6
    have HG6 := hid hg6
    have KX6 := hid ((hg6.block (w.heap.size + 1 + 1) (by have := HSW.out; have := HWZ.out; omega) (fun e => by cases e; have := HTL.out; omega)).trans KXZ.out)
    have KR6 := hid ((hg6.block (w.heap.size + 1) (by have := HSW.out; have := HWZ.out; omega) (fun e => by cases e; have := HTL.out; omega)).trans KRZ.out)
    have y0 : w6.cell? ⟨w.heap.size + 1 + 1, 1, none⟩ = some (.slice a5 D.length c5) := (blk_cell KX6.out 1).trans rfl
    have y1 : w6.cell? ⟨w.heap.size + 1 + 1, 0, none⟩ = some (.slice pa C.pods.length pc) := (blk_cell KX6.out 0).trans rfl
    have r0 : w6.cell? ⟨w.heap.size + 1, 0, none⟩ = some (.slice none 0 0) := (blk_cell KR6.out 0).trans rfl
    have r1 : w6.cell? ⟨w.heap.size + 1, 1, none⟩ = some (.slice none 0 0) := (blk_cell KR6.out 1).trans rfl
    have rf := blk_frozen KR6.out
    clear ht6 hT6 hg6
    go_wp2
    have HWS := hid (FwWs.set (v := .slice pa C.pods.length pc) (v' := .slice a5 D.length c5) HBZ.out HG6.out (show w.heap.size ≤ w.heap.size + 1 by omega) (show w.heap.size + 1 < W.heap.size by have := HSW.out; omega) HWZ.out HTL.out)
    have KRF := (set_blk (set_blk KR6.out 0 (.slice pa C.pods.length pc)) 1 (.slice a5 D.length c5))
    have g0 := (blk_cell KRF 0).trans rfl
    have g1 := (blk_cell KRF 1).trans rfl
    generalize (w6.setCell ⟨w.heap.size + 1, 0, none⟩ (.slice pa C.pods.length pc)).setCell ⟨w.heap.size + 1, 1, none⟩ (.slice a5 D.length c5) = F at HWS g0 g1 ⊢
    refine bodyPost_ret (v := .tuple #[.agg #[.slice pa C.pods.length pc, .slice a5 D.length c5], .bool true]) (by simp [results, Tryz.results26, go_sem, g0, g1]) rfl ?_
    obtain ⟨a', c', e', _, hrd⟩ := own_pols (w0 := hide w G) (HWS.out.own HGL.out HOZ.out) (by omega) (HWS.out.belowH HGT.out) (by rw [hide_size]; exact HDO.out)
    injection e' with e1 e2 e3
    subst e1
    rw [hide_size] at hrd
    exact ⟨pa, pc, a5, c5, t0, t1, t2, by rw [E5.out, List.length_map], ⟨hpc, by rw [E5.out, List.length_map]; exact hc5⟩, rdPods.sub (HWS.out.old HGT.out) HWS.out.frame.size HP.out, by rw [E5.out]; exact hrd, HWS.out.at HT6.out, HWS.out.tab HGL.out HTC6.out, HWS.out.frame⟩
set_option maxRecDepth 100000 in
set_option maxHeartbeats 4000000 in
theorem without_poor (C : DClu) (k : Nat) (raw : Int) (tb : Nat) (G : Nat → Bool) (pa qa : Option Addr) (pc qc : Nat) (u0 u1 u2 : Value) (w : World) (hp : rdPods w.heap.size (hide w G) pa C.pods) (hq : rdPols w.heap.size (hide w G) qa C.pols) (hpc : C.pods.length ≤ pc) (hqc : C.pols.length ≤ qc) (ht : w.heap[tb]? = some (.cells #[u0, u1, u2] 94 (0, 0))) (hT : TabC w.heap.size (hide w G) u0 u1 u2 C) (hr : (right C).1 = 0) (hGt : G tb = true) (hGl : ∀ b, G b = true → b < w.heap.size) (hi : i64 raw) (h0 : 0 ≤ raw) (hz : C.pods.length = 0) (hk : pk raw (C.pols.length : Int) = (k : Int)) (hkl : k < C.pols.length) :
    Calls Tryz.prog 26 #[.agg #[.slice pa C.pods.length pc, .slice qa C.pols.length qc], .int .i64 raw, .pointer (some ⟨tb, 0, none⟩)] w (FwOk G tb ⟨C.pods, C.pols.take k ++ C.pols.drop (k + 1)⟩ w) := by
  obtain ⟨l1, l2⟩ := right_lens hr
  obtain ⟨R, hR, hrd, hok⟩ := pols_cells hq
  have hRl : R.length = C.pols.length := by rw [← hR, List.length_map]
  rw [← hRl] at hk
  have z1 : ¬ 0 < (C.pods.length : Int) := by omega
  clear hz
  have z2 : ¬ (R.length : Int) = 0 := by omega
  have z3 : (k : Int) ≤ (qc : Int) := by omega
  have z4 : (k : Int) + 1 ≤ (R.length : Int) := by omega
  have z5 : 0 ≤ (k : Int) := by omega
  have z6 : 0 ≤ (k : Int) + 1 := by omega
  have z7 : (k : Int) < (R.length : Int) := by omega
  have z8 : IntKind.i64.wrap ((k : Int) + 1) = (k : Int) + 1 := by rw [IntKind.wrap_i64]; omega
  have z9 : ((k : Int) + 1).toNat = k + 1 := by omega
  have HPICK := hid (show ∀ W, Calls Tryz.prog 22 #[.int .i64 raw, .int .i64 (R.length : Int)] W fun e w' => e = .returned (.int .i64 (k : Int)) ∧ w' = W from fun W => by rw [← hk]; exact pick_any raw _ W hi (by omega) (by omega))
  obtain ⟨ip0, hip, ipz0, ipz1, ipz2⟩ := info_parts info_pol
  obtain ⟨b, off, rfl, hbl⟩ : ∃ b off, qa = some ⟨b, off, none⟩ ∧ b < w.heap.size := by
    obtain ⟨b, off, e, hb, _⟩ := hrd.2 k R[k] (List.getElem?_eq_getElem (by omega))
    exact ⟨b, off, e, hb⟩
  obtain ⟨D, hD⟩ : ∃ D, D = R.take k ++ R.drop (k + 1) := ⟨_, rfl⟩
  have hDl : D.length + 1 = R.length := by rw [hD]; simp; omega
  have hDM : D.map (·.d) = C.pols.take k ++ C.pols.drop (k + 1) := by rw [hD, List.map_append, List.map_take, List.map_drop, hR]
  have HDO := hid (show ∀ r ∈ D, r.ok w.heap.size (hide w G) from fun r hr => by
    rw [hD] at hr
    rcases List.mem_append.1 hr with hr | hr
    · exact hok r (List.mem_of_mem_take hr)
    · exact hok r (List.mem_of_mem_drop hr))
  obtain ⟨M, hM⟩ : ∃ M : List DPol, M = C.pols.take k ++ C.pols.drop (k + 1) := ⟨_, rfl⟩
  rw [← hM]
  have E5 := hid (show M = D.map (·.d) by rw [hM, hDM])
  have HTL := hid (show tb < w.heap.size from (Array.getElem?_eq_some_iff.1 ht).1)
  have HRR := hid (show (right ⟨C.pods, M⟩).1 = 0 by rw [hM, right_dropPol hr])
  have HDROP := hid (show ∀ Z, Below w.heap.size w Z → Calls Tryz.prog 44 #[.pointer (some ⟨tb, 0, none⟩), .int .i64 (k : Int)] Z fun e w' => e = .returned (.int .i64 0) ∧ ∃ u0 u1 u2, w'.heap[tb]? = some (.cells #[u0, u1, u2] 94 (0, 0)) ∧ TabC w'.heap.size (hide w' (low Z.heap.size)) u0 u1 u2 ⟨C.pods, M⟩ ∧ Z.grownBy w' (some tb) from fun Z hb => by
    obtain ⟨r, vs, ta, tq, tpc, tqc, rfl, rfl, rfl, _, h5, h6, rp, rq, _⟩ := hT
    refine (dropPol_some k tb _ C ta tq tpc tqc Z ((hb.block tb (Array.getElem?_eq_some_iff.1 ht).1).trans ht) (rdPods.sub (sub_in hb) hb.size rp) (rdPols.sub (sub_in hb) hb.size rq) h5 h6 hr hkl).mono ?_
    rw [← hM]
    rintro e w' ⟨he, hc⟩
    obtain ⟨⟨v0, v1, v2, h1, h2⟩, h3⟩ := hc.1 HRR.out
    exact ⟨he, v0, v1, v2, h1, h2, h3⟩)
  have HD := hid hD
  have HRD := hid hrd
  have HOK := hid hok
  have HP := hid hp
  have HT := hid ht
  have HTC := hid hT
  have HGT := hid hGt
  have HGL := hid hGl
  have HRL := hid hRl
  have hq4 : R.length ≤ 4 := by omega
  have hqcR : R.length ≤ qc := by omega
  rw [← hRl]
  clear hp hq ht hT hr hGt hGl hD hDM hM hrd hok hk hi hRl hR
  go_enter Tryz.func26, Tryz.ntmps26
  go_wp2_with (go_at_call 22; refine (HPICK.out _).mono ?_; rintro e w' ⟨rfl, rfl⟩)
  generalize hW : (((w.alloc (.cells #[.slice pa C.pods.length pc, .slice (some ⟨b, off, none⟩) R.length qc] 28)).alloc (.cells #[.slice none 0 0, .slice none 0 0] 28)).alloc (.cells #[.slice none 0 0, .slice none 0 0] 28)) = W
  have HSW := hid (show W.heap.size = w.heap.size + 3 by rw [← hW]; simp)
  have HBW := hid (show Below w.heap.size w W from by rw [← hW]; exact (by repeat (first | exact Below.refl _ _ | assumption | apply Ext.alloc | apply Ext.drewN | apply Ext.drew | refine Ext.trans ?_ (by assumption))))
  have KC := hid (show W.heap[w.heap.size]? = some (.cells #[.slice pa C.pods.length pc, .slice (some ⟨b, off, none⟩) R.length qc] 28 (0, 0)) from by rw [← hW]; exact (Below.heap_alloc _ _ _ (by simp only [World.size_alloc]; omega)).trans ((Below.heap_alloc _ _ _ (by simp)).trans (new_heap _ _)))
  have KR := hid (show W.heap[w.heap.size + 1]? = some (.cells #[.slice none 0 0, .slice none 0 0] 28 (0, 0)) from by
    rw [← hW]
    have := new_heap (w.alloc (.cells #[.slice pa C.pods.length pc, .slice (some ⟨b, off, none⟩) R.length qc] 28)) (.cells #[.slice none 0 0, .slice none 0 0] 28)
    simp only [World.size_alloc] at this
    exact (Below.heap_alloc _ _ _ (by simp)).trans this)
  have KX := hid (show W.heap[w.heap.size + 1 + 1]? = some (.cells #[.slice none 0 0, .slice none 0 0] 28 (0, 0)) from by
    rw [← hW]
    have := new_heap ((w.alloc (.cells #[.slice pa C.pods.length pc, .slice (some ⟨b, off, none⟩) R.length qc] 28)).alloc (.cells #[.slice none 0 0, .slice none 0 0] 28)) (.cells #[.slice none 0 0, .slice none 0 0] 28)
    simp only [World.size_alloc] at this
    exact this)
  clear hW
  have HS0 : W.drew.cell? ⟨w.heap.size + 1 + 1, 1, none⟩ = some (.slice none 0 0) ∧ W.drew.cell? ⟨w.heap.size, 1, none⟩ = some (.slice (some ⟨b, off, none⟩) R.length qc) := ⟨(blk_cell KX.out 1).trans rfl, (blk_cell KC.out 1).trans rfl⟩
  have HPW := hid (show RdSl W.heap.size W.drew 6 80 (eCells encPol) (some ⟨b, off, none⟩) R from cells_ext ((Below.refl W.heap.size W).drew) (Nat.le_refl _) (cells_sub (sub_in HBW.out) HBW.out.size HRD.out))
  refine wp_region_held_tail (S := (fun w' : World => w'.cell? ⟨w.heap.size + 1 + 1, 1, none⟩ = some (.slice none 0 0) ∧ w'.cell? ⟨w.heap.size, 1, none⟩ = some (.slice (some ⟨b, off, none⟩) R.length qc))) 7 (by kernel_rfl) (by kernel_rfl) ?_
  simp only [takes_7, drops_7]
  have hS0 : (fun w' : World => w'.cell? ⟨w.heap.size + 1 + 1, 1, none⟩ = some (.slice none 0 0) ∧ w'.cell? ⟨w.heap.size, 1, none⟩ = some (.slice (some ⟨b, off, none⟩) R.length qc)) W.drew := HS0
  refine htake_0 (.pointer (some ⟨w.heap.size + 1 + 1, 1, none⟩)) (by kernel_rfl) (by kernel_rfl) (by kernel_rfl) rfl (fun _ _ _ h => h) (fun w' hSw => by (obtain ⟨s0, s1⟩ := hSw; go_simp)) hS0 ?_
  try simp only [Act.put, List.setIfInBounds_toArray, List.set_cons_zero, List.set_cons_succ]
  refine htake_1 (.slice none 0 0) (by kernel_rfl) (by kernel_rfl) (by kernel_rfl) rfl (fun _ _ _ h => h) (fun w' hSw => by (obtain ⟨s0, s1⟩ := hSw; go_simp)) hS0 ?_
  try simp only [Act.put, List.setIfInBounds_toArray, List.set_cons_zero, List.set_cons_succ]
  refine htake_2 (.pointer (some ⟨w.heap.size, 1, none⟩)) (by kernel_rfl) (by kernel_rfl) (by kernel_rfl) rfl (fun _ _ _ h => h) (fun w' hSw => by (obtain ⟨s0, s1⟩ := hSw; go_simp)) hS0 ?_
  try simp only [Act.put, List.setIfInBounds_toArray, List.set_cons_zero, List.set_cons_succ]
  refine htake_3 (.slice (some ⟨b, off, none⟩) R.length qc) (by kernel_rfl) (by kernel_rfl) (by kernel_rfl) rfl (fun _ _ _ h => h) (fun w' hSw => by (obtain ⟨s0, s1⟩ := hSw; go_simp)) hS0 ?_
  try simp only [Act.put, List.setIfInBounds_toArray, List.set_cons_zero, List.set_cons_succ]
  refine htake_4 (.int .i64 (k : Int)) (by kernel_rfl) (by kernel_rfl) (by kernel_rfl) rfl (fun _ _ _ h => h) (fun w' hSw => by (obtain ⟨s0, s1⟩ := hSw; go_simp)) hS0 ?_
  try simp only [Act.put, List.setIfInBounds_toArray, List.set_cons_zero, List.set_cons_succ]
  refine htake_5 (.slice (some ⟨b, off, none⟩) k qc) (by kernel_rfl) (by kernel_rfl) (by kernel_rfl) rfl (fun _ _ _ h => h) (fun w' hSw => by (obtain ⟨s0, s1⟩ := hSw; go_simp)) hS0 ?_
  try simp only [Act.put, List.setIfInBounds_toArray, List.set_cons_zero, List.set_cons_succ]
  refine hone_6 (by kernel_rfl) rfl (fun K hK => ?_)
  refine wp_append_list _ (.tmp 73) (.tmp 77) 26 rfl W.heap.size 59 ip0 _ 6 80 Tryz.underlying26 hip ipz0 ipz1 ipz2 rfl (by decide) (.slice none 0 0) 0 [] rfl (World.ownsRow_nil _ _ _ _) (some ⟨b, off, none⟩) k qc ((R.take k).flatMap encPol) rfl ((oflat_len (k := 6) (fun _ => rfl) _).trans (by rw [List.length_take]; congr 1; omega)) (news_of (k := 6) (fun _ => rfl) (by decide) (rd_take HPW.out k) (fun _ _ _ h => h)) (encPols_ones (B := w.heap.size) (w := hide w G) (fun r hr => HOK.out r (List.mem_of_mem_take hr))) (by unfold maxLen; omega) (by omega) (Nat.le_refl _) ?_
  intro v3 w3 hown3 hg3
  rw [Nat.zero_add, List.nil_append] at hown3
  obtain ⟨a3, c3, rfl, hc3, _⟩ := own_slice hown3
  have HO3 := hid hown3
  have HB3 := hid (show Below W.heap.size W w3 from ⟨hg3.os, hg3.tape, hg3.output, hg3.size, fun b hb => hg3.block b hb (by simp [Value.ownBlock])⟩)
  have KX3 := hid ((HB3.out.block (w.heap.size + 1 + 1) (by have := HSW.out; omega)).trans KX.out)
  have KC3 := hid ((HB3.out.block w.heap.size (by have := HSW.out; omega)).trans KC.out)
  have KR3 := hid ((HB3.out.block (w.heap.size + 1) (by have := HSW.out; omega)).trans KR.out)
  have t0 : w3.cell? ⟨w.heap.size + 1 + 1, 1, none⟩ = some (.slice none 0 0) := (blk_cell KX3.out 1).trans rfl
  have t1 : w3.cell? ⟨w.heap.size, 1, none⟩ = some (.slice (some ⟨b, off, none⟩) R.length qc) := (blk_cell KC3.out 1).trans rfl
  have tf := blk_frozen KX3.out
  clear hown3 hg3
  refine hK _ _ ⟨t0, t1⟩ ?_
  refine wpAnyH_done (by kernel_rfl) ?_ _
  show wpList _ _ _ _ _ _
  try simp only [Act.put, List.setIfInBounds_toArray, List.set_cons_zero, List.set_cons_succ]
  clear hK hS0 HS0
  go_wp2_with fail
  have KX4 := hid (show (w3.setCell ⟨w.heap.size + 1 + 1, 1, none⟩ (.slice a3 k c3)).heap[w.heap.size + 1 + 1]? = some (.cells #[.slice none 0 0, .slice a3 k c3] 28 (0, 0)) from (set_blk KX3.out 1 (.slice a3 k c3)).trans rfl)
  have KC4 := hid ((Below.heap_setCell w3 ⟨w.heap.size + 1 + 1, 1, none⟩ (.slice a3 k c3) w.heap.size (by show _ ≠ w.heap.size + 1 + 1; omega)).trans KC3.out)
  have KR4 := hid ((Below.heap_setCell w3 ⟨w.heap.size + 1 + 1, 1, none⟩ (.slice a3 k c3) (w.heap.size + 1) (by show _ ≠ w.heap.size + 1 + 1; omega)).trans KR3.out)
  have HO4 := hid (row_set HO3.out ⟨w.heap.size + 1 + 1, 1, none⟩ (.slice a3 k c3) (by show w.heap.size + 1 + 1 < _; have := HSW.out; omega))
  have HB4 := hid (show Below w.heap.size w (w3.setCell ⟨w.heap.size + 1 + 1, 1, none⟩ (.slice a3 k c3)) from (Ext.trans HBW.out HB3.out).setCell (by show w.heap.size ≤ w.heap.size + 1 + 1; omega) _)
  have HW4 := hid (show W.heap.size ≤ (w3.setCell ⟨w.heap.size + 1 + 1, 1, none⟩ (.slice a3 k c3)).heap.size by rw [World.size_setCell]; exact HB3.out.size)
  generalize w3.setCell ⟨w.heap.size + 1 + 1, 1, none⟩ (.slice a3 k c3) = X at KX4 KC4 KR4 HO4 HB4 HW4 ⊢
  clear t0 t1 tf
  have HS0 : X.drew.cell? ⟨w.heap.size + 1 + 1, 1, none⟩ = some (.slice a3 k c3) ∧ X.drew.cell? ⟨w.heap.size, 1, none⟩ = some (.slice (some ⟨b, off, none⟩) R.length qc) := ⟨(blk_cell KX4.out 1).trans rfl, (blk_cell KC4.out 1).trans rfl⟩
  have HPX := hid (show RdSl X.heap.size X.drew 6 80 (eCells encPol) (some ⟨b, off, none⟩) R from cells_ext ((Below.refl X.heap.size X).drew) (Nat.le_refl _) (cells_sub (sub_in HB4.out) HB4.out.size HRD.out))
  have hc3' : k ≤ c3 := hc3
  by_cases hqk : qc = k + 1
  · have HQK := hid hqk
    have HD0 := hid (show R.drop (k + 1) = [] from List.drop_eq_nil_of_le (by omega))
    clear hqk
    refine wp_region_held_tail (S := (fun w' : World => w'.cell? ⟨w.heap.size + 1 + 1, 1, none⟩ = some (.slice a3 k c3) ∧ w'.cell? ⟨w.heap.size, 1, none⟩ = some (.slice (some ⟨b, off, none⟩) R.length qc))) 8 (by kernel_rfl) (by kernel_rfl) ?_
    simp only [takes_8, drops_8]
    have hS0 : (fun w' : World => w'.cell? ⟨w.heap.size + 1 + 1, 1, none⟩ = some (.slice a3 k c3) ∧ w'.cell? ⟨w.heap.size, 1, none⟩ = some (.slice (some ⟨b, off, none⟩) R.length qc)) X.drew := HS0
    refine htake_0 (.pointer (some ⟨w.heap.size + 1 + 1, 1, none⟩)) (by kernel_rfl) (by kernel_rfl) (by kernel_rfl) rfl (fun _ _ _ h => h) (fun w' hSw => by (obtain ⟨s0, s1⟩ := hSw; go_simp)) hS0 ?_
    try simp only [Act.put, List.setIfInBounds_toArray, List.set_cons_zero, List.set_cons_succ]
    refine htake_1 (.slice a3 k c3) (by kernel_rfl) (by kernel_rfl) (by kernel_rfl) rfl (fun _ _ _ h => h) (fun w' hSw => by (obtain ⟨s0, s1⟩ := hSw; go_simp)) hS0 ?_
    try simp only [Act.put, List.setIfInBounds_toArray, List.set_cons_zero, List.set_cons_succ]
    refine htake_2 (.pointer (some ⟨w.heap.size, 1, none⟩)) (by kernel_rfl) (by kernel_rfl) (by kernel_rfl) rfl (fun _ _ _ h => h) (fun w' hSw => by (obtain ⟨s0, s1⟩ := hSw; go_simp)) hS0 ?_
    try simp only [Act.put, List.setIfInBounds_toArray, List.set_cons_zero, List.set_cons_succ]
    refine htake_3 (.slice (some ⟨b, off, none⟩) R.length qc) (by kernel_rfl) (by kernel_rfl) (by kernel_rfl) rfl (fun _ _ _ h => h) (fun w' hSw => by (obtain ⟨s0, s1⟩ := hSw; go_simp)) hS0 ?_
    try simp only [Act.put, List.setIfInBounds_toArray, List.set_cons_zero, List.set_cons_succ]
    refine htake_4 (.int .i64 (k : Int)) (by kernel_rfl) (by kernel_rfl) (by kernel_rfl) rfl (fun _ _ _ h => h) (fun w' hSw => by (obtain ⟨s0, s1⟩ := hSw; go_simp)) hS0 ?_
    try simp only [Act.put, List.setIfInBounds_toArray, List.set_cons_zero, List.set_cons_succ]
    refine htake_5 (.int .i64 ((k : Int) + 1)) (by kernel_rfl) (by kernel_rfl) (by kernel_rfl) rfl (fun _ _ _ h => h) (fun w' hSw => by (obtain ⟨s0, s1⟩ := hSw; go_simp)) hS0 ?_
    try simp only [Act.put, List.setIfInBounds_toArray, List.set_cons_zero, List.set_cons_succ]
    refine htake_6 (.slice (some ⟨b, off, none⟩) (R.length - (k + 1)) (qc - (k + 1))) (by kernel_rfl) (by kernel_rfl) (by kernel_rfl) rfl (fun _ _ _ h => h) (fun w' hSw => by (obtain ⟨s0, s1⟩ := hSw; have eq := HQK.out; go_simp)) hS0 ?_
    try simp only [Act.put, List.setIfInBounds_toArray, List.set_cons_zero, List.set_cons_succ]
    refine hone_7 (by kernel_rfl) rfl (fun K hK => ?_)
    refine wp_append_list _ (.tmp 81) (.tmp 86) 26 rfl W.heap.size 59 ip0 _ 6 80 Tryz.underlying26 hip ipz0 ipz1 ipz2 rfl (by decide) (.slice a3 k c3) k ((R.take k).flatMap encPol) rfl (own_to HO4.out ((Below.refl _ X).drew)) (some ⟨b, off, none⟩) (R.length - (k + 1)) (qc - (k + 1)) ((R.drop (k + 1)).flatMap encPol) rfl ((oflat_len (k := 6) (fun _ => rfl) _).trans (by rw [List.length_drop])) (news_of (k := 6) (fun _ => rfl) (by decide) (show RdSl X.heap.size X.drew 6 80 (eCells encPol) (some ⟨b, off, none⟩) (R.drop (k + 1)) by rw [HD0.out]; exact rd_nil _ _ _ _ _ _) (fun _ _ _ h => h)) (encPols_ones (B := w.heap.size) (w := hide w G) (fun r hr => HOK.out r (List.mem_of_mem_drop hr))) (by unfold maxLen; omega) (by omega) HW4.out ?_
    intro v5 w5 hown5 hg5
    rw [← List.flatMap_append, ← HD.out, show k + (R.length - (k + 1)) = D.length by omega] at hown5
    obtain ⟨a5, c5, rfl, hc5, _⟩ := own_slice hown5
    have HO5 := hid hown5
    have HB5 := hid (show Below W.heap.size X w5 from ⟨hg5.os, hg5.tape, hg5.output, hg5.size, fun b hb => hg5.block b (Nat.lt_of_lt_of_le hb HW4.out) (fun e => by have := (HO4.out.lt _ e.symm).1; omega)⟩)
    have KX5 := hid ((HB5.out.block (w.heap.size + 1 + 1) (by have := HSW.out; omega)).trans KX4.out)
    have KC5 := hid ((HB5.out.block w.heap.size (by have := HSW.out; omega)).trans KC4.out)
    have KR5 := hid ((HB5.out.block (w.heap.size + 1) (by have := HSW.out; omega)).trans KR4.out)
    have HBw5 := hid (show Below w.heap.size w w5 from HB4.out.trans (HB5.out.mono (by have := HSW.out; omega)))
    have x0 : w5.cell? ⟨w.heap.size + 1 + 1, 1, none⟩ = some (.slice a3 k c3) := (blk_cell KX5.out 1).trans rfl
    have x1 : w5.cell? ⟨w.heap.size + 1 + 1, 0, none⟩ = some (.slice none 0 0) := (blk_cell KX5.out 0).trans rfl
    have xf := blk_frozen KX5.out
    have c0 : w5.cell? ⟨w.heap.size, 1, none⟩ = some (.slice (some ⟨b, off, none⟩) R.length qc) := (blk_cell KC5.out 1).trans rfl
    have c1 : w5.cell? ⟨w.heap.size, 0, none⟩ = some (.slice pa C.pods.length pc) := (blk_cell KC5.out 0).trans rfl
    clear hown5 hg5
    refine hK _ _ ⟨x0, c0⟩ ?_
    refine wpAnyH_done (by kernel_rfl) ?_ _
    show wpList _ _ _ _ _ _
    try simp only [Act.put, List.setIfInBounds_toArray, List.set_cons_zero, List.set_cons_succ]
    clear hK hS0 HS0
    go_wp2_with fail
    have KXZ := hid (show ((w5.setCell ⟨w.heap.size + 1 + 1, 1, none⟩ (.slice a5 D.length c5)).setCell ⟨w.heap.size + 1 + 1, 0, none⟩ (.slice pa C.pods.length pc)).heap[w.heap.size + 1 + 1]? = some (.cells #[.slice pa C.pods.length pc, .slice a5 D.length c5] 28 (0, 0)) from (set_blk (set_blk KX5.out 1 (.slice a5 D.length c5)) 0 (.slice pa C.pods.length pc)).trans rfl)
    have KRZ := hid ((Below.heap_setCell (w5.setCell ⟨w.heap.size + 1 + 1, 1, none⟩ (.slice a5 D.length c5)) ⟨w.heap.size + 1 + 1, 0, none⟩ (.slice pa C.pods.length pc) (w.heap.size + 1) (by show _ ≠ w.heap.size + 1 + 1; omega)).trans ((Below.heap_setCell w5 ⟨w.heap.size + 1 + 1, 1, none⟩ (.slice a5 D.length c5) (w.heap.size + 1) (by show _ ≠ w.heap.size + 1 + 1; omega)).trans KR5.out))
    have HOZ := hid (row_set (row_set HO5.out ⟨w.heap.size + 1 + 1, 1, none⟩ (.slice a5 D.length c5) (by show w.heap.size + 1 + 1 < _; have := HSW.out; omega)) ⟨w.heap.size + 1 + 1, 0, none⟩ (.slice pa C.pods.length pc) (by show w.heap.size + 1 + 1 < _; have := HSW.out; omega))
    have HBZ := hid (show Below w.heap.size w ((w5.setCell ⟨w.heap.size + 1 + 1, 1, none⟩ (.slice a5 D.length c5)).setCell ⟨w.heap.size + 1 + 1, 0, none⟩ (.slice pa C.pods.length pc)) from (HBw5.out.setCell (by show w.heap.size ≤ w.heap.size + 1 + 1; omega) _).setCell (by show w.heap.size ≤ w.heap.size + 1 + 1; omega) _)
    have HWZ := hid (show W.heap.size ≤ ((w5.setCell ⟨w.heap.size + 1 + 1, 1, none⟩ (.slice a5 D.length c5)).setCell ⟨w.heap.size + 1 + 1, 0, none⟩ (.slice pa C.pods.length pc)).heap.size by rw [World.size_setCell, World.size_setCell]; exact Nat.le_trans HW4.out HB5.out.size)
    generalize (w5.setCell ⟨w.heap.size + 1 + 1, 1, none⟩ (.slice a5 D.length c5)).setCell ⟨w.heap.size + 1 + 1, 0, none⟩ (.slice pa C.pods.length pc) = Z at KXZ KRZ HOZ HBZ HWZ ⊢
    clear x0 x1 xf c0 c1
    refine (HDROP.out Z HBZ.out).mono ?_
    rintro e w6 ⟨rfl, t0, t1, t2, ht6, hT6, hg6⟩
    have HT6 := hid ht6
    have HTC6 := hid hT6
    have HG6 := hid hg6
    have KX6 := hid ((hg6.block (w.heap.size + 1 + 1) (by have := HSW.out; have := HWZ.out; omega) (fun e => by cases e; have := HTL.out; omega)).trans KXZ.out)
    have KR6 := hid ((hg6.block (w.heap.size + 1) (by have := HSW.out; have := HWZ.out; omega) (fun e => by cases e; have := HTL.out; omega)).trans KRZ.out)
    have y0 : w6.cell? ⟨w.heap.size + 1 + 1, 1, none⟩ = some (.slice a5 D.length c5) := (blk_cell KX6.out 1).trans rfl
    have y1 : w6.cell? ⟨w.heap.size + 1 + 1, 0, none⟩ = some (.slice pa C.pods.length pc) := (blk_cell KX6.out 0).trans rfl
    have r0 : w6.cell? ⟨w.heap.size + 1, 0, none⟩ = some (.slice none 0 0) := (blk_cell KR6.out 0).trans rfl
    have r1 : w6.cell? ⟨w.heap.size + 1, 1, none⟩ = some (.slice none 0 0) := (blk_cell KR6.out 1).trans rfl
    have rf := blk_frozen KR6.out
    clear ht6 hT6 hg6
    go_wp2
    have HWS := hid (FwWs.set (v := .slice pa C.pods.length pc) (v' := .slice a5 D.length c5) HBZ.out HG6.out (show w.heap.size ≤ w.heap.size + 1 by omega) (show w.heap.size + 1 < W.heap.size by have := HSW.out; omega) HWZ.out HTL.out)
    have KRF := (set_blk (set_blk KR6.out 0 (.slice pa C.pods.length pc)) 1 (.slice a5 D.length c5))
    have g0 := (blk_cell KRF 0).trans rfl
    have g1 := (blk_cell KRF 1).trans rfl
    generalize (w6.setCell ⟨w.heap.size + 1, 0, none⟩ (.slice pa C.pods.length pc)).setCell ⟨w.heap.size + 1, 1, none⟩ (.slice a5 D.length c5) = F at HWS g0 g1 ⊢
    refine bodyPost_ret (v := .tuple #[.agg #[.slice pa C.pods.length pc, .slice a5 D.length c5], .bool true]) (by simp [results, Tryz.results26, go_sem, g0, g1]) rfl ?_
    obtain ⟨a', c', e', _, hrd⟩ := own_pols (w0 := hide w G) (HWS.out.own HGL.out HOZ.out) (by omega) (HWS.out.belowH HGT.out) (by rw [hide_size]; exact HDO.out)
    injection e' with e1 e2 e3
    subst e1
    rw [hide_size] at hrd
    exact ⟨pa, pc, a5, c5, t0, t1, t2, by rw [E5.out, List.length_map], ⟨hpc, by rw [E5.out, List.length_map]; exact hc5⟩, rdPods.sub (HWS.out.old HGT.out) HWS.out.frame.size HP.out, by rw [E5.out]; exact hrd, HWS.out.at HT6.out, HWS.out.tab HGL.out HTC6.out, HWS.out.frame⟩
  · have hqk2 : ¬ qc = k + 1 := hqk
    refine wp_region_held_tail (S := (fun w' : World => w'.cell? ⟨w.heap.size + 1 + 1, 1, none⟩ = some (.slice a3 k c3) ∧ w'.cell? ⟨w.heap.size, 1, none⟩ = some (.slice (some ⟨b, off, none⟩) R.length qc))) 8 (by kernel_rfl) (by kernel_rfl) ?_
    simp only [takes_8, drops_8]
    have hS0 : (fun w' : World => w'.cell? ⟨w.heap.size + 1 + 1, 1, none⟩ = some (.slice a3 k c3) ∧ w'.cell? ⟨w.heap.size, 1, none⟩ = some (.slice (some ⟨b, off, none⟩) R.length qc)) X.drew := HS0
    refine htake_0 (.pointer (some ⟨w.heap.size + 1 + 1, 1, none⟩)) (by kernel_rfl) (by kernel_rfl) (by kernel_rfl) rfl (fun _ _ _ h => h) (fun w' hSw => by (obtain ⟨s0, s1⟩ := hSw; go_simp)) hS0 ?_
    try simp only [Act.put, List.setIfInBounds_toArray, List.set_cons_zero, List.set_cons_succ]
    refine htake_1 (.slice a3 k c3) (by kernel_rfl) (by kernel_rfl) (by kernel_rfl) rfl (fun _ _ _ h => h) (fun w' hSw => by (obtain ⟨s0, s1⟩ := hSw; go_simp)) hS0 ?_
    try simp only [Act.put, List.setIfInBounds_toArray, List.set_cons_zero, List.set_cons_succ]
    refine htake_2 (.pointer (some ⟨w.heap.size, 1, none⟩)) (by kernel_rfl) (by kernel_rfl) (by kernel_rfl) rfl (fun _ _ _ h => h) (fun w' hSw => by (obtain ⟨s0, s1⟩ := hSw; go_simp)) hS0 ?_
    try simp only [Act.put, List.setIfInBounds_toArray, List.set_cons_zero, List.set_cons_succ]
    refine htake_3 (.slice (some ⟨b, off, none⟩) R.length qc) (by kernel_rfl) (by kernel_rfl) (by kernel_rfl) rfl (fun _ _ _ h => h) (fun w' hSw => by (obtain ⟨s0, s1⟩ := hSw; go_simp)) hS0 ?_
    try simp only [Act.put, List.setIfInBounds_toArray, List.set_cons_zero, List.set_cons_succ]
    refine htake_4 (.int .i64 (k : Int)) (by kernel_rfl) (by kernel_rfl) (by kernel_rfl) rfl (fun _ _ _ h => h) (fun w' hSw => by (obtain ⟨s0, s1⟩ := hSw; go_simp)) hS0 ?_
    try simp only [Act.put, List.setIfInBounds_toArray, List.set_cons_zero, List.set_cons_succ]
    refine htake_5 (.int .i64 ((k : Int) + 1)) (by kernel_rfl) (by kernel_rfl) (by kernel_rfl) rfl (fun _ _ _ h => h) (fun w' hSw => by (obtain ⟨s0, s1⟩ := hSw; go_simp)) hS0 ?_
    try simp only [Act.put, List.setIfInBounds_toArray, List.set_cons_zero, List.set_cons_succ]
    refine htake_6 (.slice (some ⟨b, off + (k + 1) * 6, none⟩) (R.length - (k + 1)) (qc - (k + 1))) (by kernel_rfl) (by kernel_rfl) (by kernel_rfl) rfl (fun _ _ _ h => h) (fun w' hSw => by (obtain ⟨s0, s1⟩ := hSw; go_simp)) hS0 ?_
    try simp only [Act.put, List.setIfInBounds_toArray, List.set_cons_zero, List.set_cons_succ]
    refine hone_7 (by kernel_rfl) rfl (fun K hK => ?_)
    refine wp_append_list _ (.tmp 81) (.tmp 86) 26 rfl W.heap.size 59 ip0 _ 6 80 Tryz.underlying26 hip ipz0 ipz1 ipz2 rfl (by decide) (.slice a3 k c3) k ((R.take k).flatMap encPol) rfl (own_to HO4.out ((Below.refl _ X).drew)) (some ⟨b, off + (k + 1) * 6, none⟩) (R.length - (k + 1)) (qc - (k + 1)) ((R.drop (k + 1)).flatMap encPol) rfl ((oflat_len (k := 6) (fun _ => rfl) _).trans (by rw [List.length_drop])) (news_of (k := 6) (fun _ => rfl) (by decide) (rd_drop HPX.out (k + 1)) (fun _ _ _ h => h)) (encPols_ones (B := w.heap.size) (w := hide w G) (fun r hr => HOK.out r (List.mem_of_mem_drop hr))) (by unfold maxLen; omega) (by omega) HW4.out ?_
    intro v5 w5 hown5 hg5
    rw [← List.flatMap_append, ← HD.out, show k + (R.length - (k + 1)) = D.length by omega] at hown5
    obtain ⟨a5, c5, rfl, hc5, _⟩ := own_slice hown5
    have HO5 := hid hown5
    have HB5 := hid (show Below W.heap.size X w5 from ⟨hg5.os, hg5.tape, hg5.output, hg5.size, fun b hb => hg5.block b (Nat.lt_of_lt_of_le hb HW4.out) (fun e => by have := (HO4.out.lt _ e.symm).1; omega)⟩)
    have KX5 := hid ((HB5.out.block (w.heap.size + 1 + 1) (by have := HSW.out; omega)).trans KX4.out)
    have KC5 := hid ((HB5.out.block w.heap.size (by have := HSW.out; omega)).trans KC4.out)
    have KR5 := hid ((HB5.out.block (w.heap.size + 1) (by have := HSW.out; omega)).trans KR4.out)
    have HBw5 := hid (show Below w.heap.size w w5 from HB4.out.trans (HB5.out.mono (by have := HSW.out; omega)))
    have x0 : w5.cell? ⟨w.heap.size + 1 + 1, 1, none⟩ = some (.slice a3 k c3) := (blk_cell KX5.out 1).trans rfl
    have x1 : w5.cell? ⟨w.heap.size + 1 + 1, 0, none⟩ = some (.slice none 0 0) := (blk_cell KX5.out 0).trans rfl
    have xf := blk_frozen KX5.out
    have c0 : w5.cell? ⟨w.heap.size, 1, none⟩ = some (.slice (some ⟨b, off, none⟩) R.length qc) := (blk_cell KC5.out 1).trans rfl
    have c1 : w5.cell? ⟨w.heap.size, 0, none⟩ = some (.slice pa C.pods.length pc) := (blk_cell KC5.out 0).trans rfl
    clear hown5 hg5
    refine hK _ _ ⟨x0, c0⟩ ?_
    refine wpAnyH_done (by kernel_rfl) ?_ _
    show wpList _ _ _ _ _ _
    try simp only [Act.put, List.setIfInBounds_toArray, List.set_cons_zero, List.set_cons_succ]
    clear hK hS0 HS0
    go_wp2_with fail
    have KXZ := hid (show ((w5.setCell ⟨w.heap.size + 1 + 1, 1, none⟩ (.slice a5 D.length c5)).setCell ⟨w.heap.size + 1 + 1, 0, none⟩ (.slice pa C.pods.length pc)).heap[w.heap.size + 1 + 1]? = some (.cells #[.slice pa C.pods.length pc, .slice a5 D.length c5] 28 (0, 0)) from (set_blk (set_blk KX5.out 1 (.slice a5 D.length c5)) 0 (.slice pa C.pods.length pc)).trans rfl)
    have KRZ := hid ((Below.heap_setCell (w5.setCell ⟨w.heap.size + 1 + 1, 1, none⟩ (.slice a5 D.length c5)) ⟨w.heap.size + 1 + 1, 0, none⟩ (.slice pa C.pods.length pc) (w.heap.size + 1) (by show _ ≠ w.heap.size + 1 + 1; omega)).trans ((Below.heap_setCell w5 ⟨w.heap.size + 1 + 1, 1, none⟩ (.slice a5 D.length c5) (w.heap.size + 1) (by show _ ≠ w.heap.size + 1 + 1; omega)).trans KR5.out))
    have HOZ := hid (row_set (row_set HO5.out ⟨w.heap.size + 1 + 1, 1, none⟩ (.slice a5 D.length c5) (by show w.heap.size + 1 + 1 < _; have := HSW.out; omega)) ⟨w.heap.size + 1 + 1, 0, none⟩ (.slice pa C.pods.length pc) (by show w.heap.size + 1 + 1 < _; have := HSW.out; omega))
    have HBZ := hid (show Below w.heap.size w ((w5.setCell ⟨w.heap.size + 1 + 1, 1, none⟩ (.slice a5 D.length c5)).setCell ⟨w.heap.size + 1 + 1, 0, none⟩ (.slice pa C.pods.length pc)) from (HBw5.out.setCell (by show w.heap.size ≤ w.heap.size + 1 + 1; omega) _).setCell (by show w.heap.size ≤ w.heap.size + 1 + 1; omega) _)
    have HWZ := hid (show W.heap.size ≤ ((w5.setCell ⟨w.heap.size + 1 + 1, 1, none⟩ (.slice a5 D.length c5)).setCell ⟨w.heap.size + 1 + 1, 0, none⟩ (.slice pa C.pods.length pc)).heap.size by rw [World.size_setCell, World.size_setCell]; exact Nat.le_trans HW4.out HB5.out.size)
    generalize (w5.setCell ⟨w.heap.size + 1 + 1, 1, none⟩ (.slice a5 D.length c5)).setCell ⟨w.heap.size + 1 + 1, 0, none⟩ (.slice pa C.pods.length pc) = Z at KXZ KRZ HOZ HBZ HWZ ⊢
    clear x0 x1 xf c0 c1
    refine (HDROP.out Z HBZ.out).mono ?_
    rintro e w6 ⟨rfl, t0, t1, t2, ht6, hT6, hg6⟩
    have HT6 := hid ht6
    have HTC6 := hid hT6
    have HG6 := hid hg6
    have KX6 := hid ((hg6.block (w.heap.size + 1 + 1) (by have := HSW.out; have := HWZ.out; omega) (fun e => by cases e; have := HTL.out; omega)).trans KXZ.out)
    have KR6 := hid ((hg6.block (w.heap.size + 1) (by have := HSW.out; have := HWZ.out; omega) (fun e => by cases e; have := HTL.out; omega)).trans KRZ.out)
    have y0 : w6.cell? ⟨w.heap.size + 1 + 1, 1, none⟩ = some (.slice a5 D.length c5) := (blk_cell KX6.out 1).trans rfl
    have y1 : w6.cell? ⟨w.heap.size + 1 + 1, 0, none⟩ = some (.slice pa C.pods.length pc) := (blk_cell KX6.out 0).trans rfl
    have r0 : w6.cell? ⟨w.heap.size + 1, 0, none⟩ = some (.slice none 0 0) := (blk_cell KR6.out 0).trans rfl
    have r1 : w6.cell? ⟨w.heap.size + 1, 1, none⟩ = some (.slice none 0 0) := (blk_cell KR6.out 1).trans rfl
    have rf := blk_frozen KR6.out
    clear ht6 hT6 hg6
    go_wp2
    have HWS := hid (FwWs.set (v := .slice pa C.pods.length pc) (v' := .slice a5 D.length c5) HBZ.out HG6.out (show w.heap.size ≤ w.heap.size + 1 by omega) (show w.heap.size + 1 < W.heap.size by have := HSW.out; omega) HWZ.out HTL.out)
    have KRF := (set_blk (set_blk KR6.out 0 (.slice pa C.pods.length pc)) 1 (.slice a5 D.length c5))
    have g0 := (blk_cell KRF 0).trans rfl
    have g1 := (blk_cell KRF 1).trans rfl
    generalize (w6.setCell ⟨w.heap.size + 1, 0, none⟩ (.slice pa C.pods.length pc)).setCell ⟨w.heap.size + 1, 1, none⟩ (.slice a5 D.length c5) = F at HWS g0 g1 ⊢
    refine bodyPost_ret (v := .tuple #[.agg #[.slice pa C.pods.length pc, .slice a5 D.length c5], .bool true]) (by simp [results, Tryz.results26, go_sem, g0, g1]) rfl ?_
    obtain ⟨a', c', e', _, hrd⟩ := own_pols (w0 := hide w G) (HWS.out.own HGL.out HOZ.out) (by omega) (HWS.out.belowH HGT.out) (by rw [hide_size]; exact HDO.out)
    injection e' with e1 e2 e3
    subst e1
    rw [hide_size] at hrd
    exact ⟨pa, pc, a5, c5, t0, t1, t2, by rw [E5.out, List.length_map], ⟨hpc, by rw [E5.out, List.length_map]; exact hc5⟩, rdPods.sub (HWS.out.old HGT.out) HWS.out.frame.size HP.out, by rw [E5.out]; exact hrd, HWS.out.at HT6.out, HWS.out.tab HGL.out HTC6.out, HWS.out.frame⟩
end Go.Proofs.YtmkjlhplgcifiaaGreat
