/-
  palisadekeep: without, walked.
-/
import Derived.Test.YtmkjlhplgcifiaaGreatK23
import Derived.Test.YtmkjlhplgcifiaaGreatK08
import Derived.Test.YtmkjlhplgcifiaaGreatK20
namespace Go.Proofs.YtmkjlhplgcifiaaGreat
open Go.ChangeShapes Go.WideShapes Go.ChangeAt Go.RowKit
attribute [local simp] World.cell?_grow
attribute [local go_sem] World.cell?_grow
attribute [local simp] World.cell?_alloc_there
attribute [local go_sem] World.cell?_alloc_there
attribute [local go_sem] eqg_blk std_blk eqg_pod std_pod eqg_sel std_sel eqg_prt std_prt
attribute [local go_sem ↓] eql_blk eql_sel neq_sel eql_prt eql_pod
attribute [local go_sem ↓] met_in1 met_in2 met_re1 met_re2
attribute [local go_sem ↓] met_has1 met_has2
attribute [local go_sem ↓] met_bl1 met_bl2
attribute [local go_sem] eqg_row std_row
attribute [local go_sem ↓] neq_row
set_option linter.unusedVariables false
set_option linter.unusedSimpArgs false
/-- what without leaves: a cluster, and tables of it -/
def FwOk (G : Nat → Bool) (tb : Nat) (D : DClu) (w : World) (e : Ending) (w' : World) : Prop :=
  ∃ va vc wa wc u0 u1 u2, e = .returned (.tuple #[.agg #[.slice va D.pods.length vc, .slice wa D.pols.length wc], .bool true]) ∧ (D.pods.length ≤ vc ∧ D.pols.length ≤ wc) ∧ rdPods w'.heap.size (hide w' G) va D.pods ∧ rdPols w'.heap.size (hide w' G) wa D.pols ∧
    w'.heap[tb]? = some (.cells #[u0, u1, u2] 94 (0, 0)) ∧ TabC w'.heap.size (hide w' G) u0 u1 u2 D ∧ w.grownBy w' (some tb)
theorem sub_in {w w' : World} {G : Nat → Bool} (h : Below w.heap.size w w') : Sub (hide w G) w' := Sub.unhide fun b hb _ => h.block b hb
/-- what is owned above a bound reads where only blocks below it are hidden -/
theorem own_hidden {w : World} {base : Nat} {e : TypeId} {size : Nat} {v : Value} {n : Nat} {xs : List Value} {G : Nat → Bool} (h : w.ownsRow base e size v n xs) (hG : ∀ b, G b = true → b < base) : (hide w G).ownsRow base e size v n xs :=
  own_stay h fun g hg => hide_block _ _ _ (by cases e : G g; rfl; exact absurd (hG g e) (by have := (h.lt g hg).1; omega))
/-- the worlds at the end of without: the tables' block was written, then the result's -/
def FwWs (w Z w6 F : World) (tb rb n : Nat) : Prop :=
  Below w.heap.size w Z ∧ Z.grownBy w6 (some tb) ∧ (∀ b, b ≠ rb → F.heap[b]? = w6.heap[b]?) ∧ (F.heap.size = w6.heap.size ∧ F.os = w6.os ∧ F.tape = w6.tape ∧ F.output = w6.output) ∧ w.heap.size ≤ rb ∧ rb < n ∧ n ≤ Z.heap.size ∧ tb < w.heap.size
theorem FwWs.frame {w Z w6 F : World} {tb rb n : Nat} (h : FwWs w Z w6 F tb rb n) : w.grownBy F (some tb) := by
  obtain ⟨h1, h2, h3, ⟨h4, h5, h6, h7⟩, h8, h9, h10, h11⟩ := h
  have := h1.size
  have := h2.size
  exact ⟨h5.trans (h2.os.trans h1.os), h6.trans (h2.tape.trans h1.tape), h7.trans (h2.output.trans h1.output), by omega, fun b hb hne => (h3 b (by omega)).trans ((h2.block b (by omega) hne).trans (h1.block b hb))⟩
theorem FwWs.old {w Z w6 F : World} {tb rb n : Nat} {G : Nat → Bool} (h : FwWs w Z w6 F tb rb n) (hG : G tb = true) : Sub (hide w G) (hide F G) :=
  Sub.hide fun b hb hb2 => ⟨hb2, h.frame.block b hb (fun e => by cases e; rw [hG] at hb2; cases hb2)⟩
theorem FwWs.tab {w Z w6 F : World} {tb rb n : Nat} {G : Nat → Bool} {u0 u1 u2 : Value} {D : DClu} (h : FwWs w Z w6 F tb rb n) (hG : ∀ b, G b = true → b < w.heap.size) (ht : TabC w6.heap.size (hide w6 (low Z.heap.size)) u0 u1 u2 D) : TabC F.heap.size (hide F G) u0 u1 u2 D := by
  obtain ⟨h1, h2, h3, ⟨h4, h5, h6, h7⟩, h8, h9, h10, h11⟩ := h
  have := h1.size
  refine ht.sub (BSub.hide fun b hb hb2 => ⟨?_, h3 b (by have := low_false.1 hb2; omega)⟩) (by omega)
  cases e : G b
  · rfl
  · have := hG b e; have := low_false.1 hb2; omega
theorem FwWs.at {w Z w6 F : World} {tb rb n : Nat} (h : FwWs w Z w6 F tb rb n) {u0 u1 u2 : Value} (ht : w6.heap[tb]? = some (.cells #[u0, u1, u2] 94 (0, 0))) : F.heap[tb]? = some (.cells #[u0, u1, u2] 94 (0, 0)) :=
  (h.2.2.1 tb (by have := h.2.2.2.2.1; have := h.2.2.2.2.2.2.2; omega)).trans ht
theorem FwWs.own {w Z w6 F : World} {tb rb n : Nat} {G : Nat → Bool} (h : FwWs w Z w6 F tb rb n) (hG : ∀ b, G b = true → b < w.heap.size) {e : TypeId} {size : Nat} {v : Value} {m : Nat} {xs : List Value} (ho : Z.ownsRow n e size v m xs) : (hide F G).ownsRow n e size v m xs := by
  obtain ⟨h1, h2, h3, ⟨h4, h5, h6, h7⟩, h8, h9, h10, h11⟩ := h
  refine own_hidden (own_stay ho fun g hg => ?_) (fun b hb => by have := hG b hb; omega)
  have := ho.lt g hg
  exact (h3 g (by omega)).trans (h2.block g this.2 (fun e => by cases e; omega))
theorem FwWs.set {w Z w6 : World} {tb rb n : Nat} {v v' : Value} (h1 : Below w.heap.size w Z) (h2 : Z.grownBy w6 (some tb)) (h3 : w.heap.size ≤ rb) (h4 : rb < n) (h5 : n ≤ Z.heap.size) (h6 : tb < w.heap.size) : FwWs w Z w6 ((w6.setCell ⟨rb, 0, none⟩ v).setCell ⟨rb, 1, none⟩ v') tb rb n :=
  ⟨h1, h2, fun b hb => (Below.heap_setCell _ _ _ _ hb).trans (Below.heap_setCell _ _ _ _ hb), ⟨by rw [World.size_setCell, World.size_setCell], (((Below.refl 0 w6).setCell (Nat.zero_le _) v).setCell (Nat.zero_le _) v').os, (((Below.refl 0 w6).setCell (Nat.zero_le _) v).setCell (Nat.zero_le _) v').tape, (((Below.refl 0 w6).setCell (Nat.zero_le _) v).setCell (Nat.zero_le _) v').output⟩, h3, h4, h5, h6⟩
set_option maxRecDepth 100000 in
set_option maxHeartbeats 4000000 in
theorem without_pod (C : DClu) (k : Nat) (raw : Int) (tb : Nat) (G : Nat → Bool) (pa qa : Option Addr) (pc qc : Nat) (u0 u1 u2 : Value) (w : World) (hp : rdPods w.heap.size (hide w G) pa C.pods) (hq : rdPols w.heap.size (hide w G) qa C.pols) (hpc : C.pods.length ≤ pc) (hqc : C.pols.length ≤ qc) (ht : w.heap[tb]? = some (.cells #[u0, u1, u2] 94 (0, 0))) (hT : TabC w.heap.size (hide w G) u0 u1 u2 C) (hr : (right C).1 = 0) (hGt : G tb = true) (hGl : ∀ b, G b = true → b < w.heap.size) (h0 : 0 ≤ raw) (hk : raw.tmod (C.pods.length : Int) = (k : Int)) (hkl : k < C.pods.length) :
    Calls Tryz.prog 26 #[.agg #[.slice pa C.pods.length pc, .slice qa C.pols.length qc], .int .i64 raw, .pointer (some ⟨tb, 0, none⟩)] w (FwOk G tb ⟨C.pods.take k ++ C.pods.drop (k + 1), C.pols⟩ w) := by
  obtain ⟨l1, l2⟩ := right_lens hr
  have z1 : 0 < (C.pods.length : Int) := by omega
  have z2 : ¬ (C.pods.length : Int) = 0 := by omega
  have z3 : (k : Int) ≤ (pc : Int) := by omega
  have z4 : (k : Int) + 1 ≤ (C.pods.length : Int) := by omega
  have z5 : 0 ≤ (k : Int) := by omega
  have z6 : 0 ≤ (k : Int) + 1 := by omega
  have z7 : (k : Int) < (C.pods.length : Int) := by omega
  have z8 : IntKind.i64.wrap ((k : Int) + 1) = (k : Int) + 1 := by rw [IntKind.wrap_i64]; omega
  have z9 : ((k : Int) + 1).toNat = k + 1 := by omega
  obtain ⟨ip0, hip, ipz0, ipz1, ipz2⟩ := info_parts info_pod
  obtain ⟨p, hpk⟩ : ∃ p, C.pods[k]? = some p := ⟨C.pods[k], List.getElem?_eq_getElem hkl⟩
  obtain ⟨b, off, rfl, hbl, e0, e1, e2, e3⟩ := hp.2 k p hpk
  obtain ⟨D, hD⟩ : ∃ D, D = C.pods.take k ++ C.pods.drop (k + 1) := ⟨_, rfl⟩
  have hDl : D.length + 1 = C.pods.length := by rw [hD]; simp; omega
  have HDF := hid (show D = C.pods.filter fun q => decide (q.ip ≠ p.ip) from hD.trans (drop_filter (right_zero hr).1.2 hpk))
  have HIS := hid (show (podAt C.pods p.ip).isSome = true from by
    cases e : podAt C.pods p.ip with
    | none => exact absurd rfl (podAt_nil.1 e p (List.mem_of_getElem? hpk))
    | some _ => rfl)
  rw [← hD]
  have HD := hid hD
  have HP := hid hp
  have HQ := hid hq
  have HT := hid ht
  have HTC := hid hT
  have HR := hid hr
  have HGT := hid hGt
  have HGL := hid hGl
  have HE1 := hid ((hide_out e1).2.2)
  have HTL := hid (show tb < w.heap.size from (Array.getElem?_eq_some_iff.1 ht).1)
  have HRD := hid (show (right ⟨D, C.pols⟩).1 = 0 by rw [HDF.out, right_dropPod hr])
  have HDROP := hid (show ∀ Z, Below w.heap.size w Z → Calls Tryz.prog 43 #[.pointer (some ⟨tb, 0, none⟩), .int .i64 p.ip] Z fun e w' => e = .returned (.int .i64 0) ∧ ∃ u0 u1 u2, w'.heap[tb]? = some (.cells #[u0, u1, u2] 94 (0, 0)) ∧ TabC w'.heap.size (hide w' (low Z.heap.size)) u0 u1 u2 ⟨D, C.pols⟩ ∧ Z.grownBy w' (some tb) from fun Z hb => by
    obtain ⟨r, vs, ta, tq, tpc, tqc, rfl, rfl, rfl, _, _, _, rp, rq, _⟩ := hT
    refine (dropPod_some p.ip tb _ C ta tq tpc tqc Z ((hb.block tb (Array.getElem?_eq_some_iff.1 ht).1).trans ht) (rdPods.sub (sub_in hb) hb.size rp) (rdPols.sub (sub_in hb) hb.size rq) hr HIS.out).mono ?_
    rw [← HDF.out]
    rintro e w' ⟨he, hc⟩
    obtain ⟨⟨v0, v1, v2, h1, h2⟩, h3⟩ := hc.1 HRD.out
    exact ⟨he, v0, v1, v2, h1, h2, h3⟩)
  clear hp hq ht hT hr hGt hGl hD hpk e0 e1 e2 e3
  go_enter Tryz.func26, Tryz.ntmps26
  go_wp2_with fail
  generalize hW : (((w.alloc (.cells #[.slice (some ⟨b, off, none⟩) C.pods.length pc, .slice qa C.pols.length qc] 28)).alloc (.cells #[.slice none 0 0, .slice none 0 0] 28)).alloc (.cells #[.slice none 0 0, .slice none 0 0] 28)) = W
  have HSW := hid (show W.heap.size = w.heap.size + 3 by rw [← hW]; simp)
  have HBW := hid (show Below w.heap.size w W from by rw [← hW]; exact (by repeat (first | exact Below.refl _ _ | assumption | apply Ext.alloc | apply Ext.drewN | apply Ext.drew | refine Ext.trans ?_ (by assumption))))
  have KC := hid (show W.heap[w.heap.size]? = some (.cells #[.slice (some ⟨b, off, none⟩) C.pods.length pc, .slice qa C.pols.length qc] 28 (0, 0)) from by rw [← hW]; exact (Below.heap_alloc _ _ _ (by simp only [World.size_alloc]; omega)).trans ((Below.heap_alloc _ _ _ (by simp)).trans (new_heap _ _)))
  have KR := hid (show W.heap[w.heap.size + 1]? = some (.cells #[.slice none 0 0, .slice none 0 0] 28 (0, 0)) from by
    rw [← hW]
    have := new_heap (w.alloc (.cells #[.slice (some ⟨b, off, none⟩) C.pods.length pc, .slice qa C.pols.length qc] 28)) (.cells #[.slice none 0 0, .slice none 0 0] 28)
    simp only [World.size_alloc] at this
    exact (Below.heap_alloc _ _ _ (by simp)).trans this)
  have KX := hid (show W.heap[w.heap.size + 1 + 1]? = some (.cells #[.slice none 0 0, .slice none 0 0] 28 (0, 0)) from by
    rw [← hW]
    have := new_heap ((w.alloc (.cells #[.slice (some ⟨b, off, none⟩) C.pods.length pc, .slice qa C.pols.length qc] 28)).alloc (.cells #[.slice none 0 0, .slice none 0 0] 28)) (.cells #[.slice none 0 0, .slice none 0 0] 28)
    simp only [World.size_alloc] at this
    exact this)
  clear hW
  have HS0 : W.drew.cell? ⟨w.heap.size + 1 + 1, 0, none⟩ = some (.slice none 0 0) ∧ W.drew.cell? ⟨w.heap.size, 0, none⟩ = some (.slice (some ⟨b, off, none⟩) C.pods.length pc) := ⟨(blk_cell KX.out 0).trans rfl, (blk_cell KC.out 0).trans rfl⟩
  have HPW := hid (show rdPods W.heap.size W.drew (some ⟨b, off, none⟩) C.pods from rdPods.ext ((Below.refl W.heap.size W).drew) (Nat.le_refl _) (rdPods.sub (sub_in HBW.out) HBW.out.size HP.out))
  refine wp_region_held_tail (S := (fun w' : World => w'.cell? ⟨w.heap.size + 1 + 1, 0, none⟩ = some (.slice none 0 0) ∧ w'.cell? ⟨w.heap.size, 0, none⟩ = some (.slice (some ⟨b, off, none⟩) C.pods.length pc))) 7 (by kernel_rfl) (by kernel_rfl) ?_
  simp only [takes_7, drops_7]
  have hS0 : (fun w' : World => w'.cell? ⟨w.heap.size + 1 + 1, 0, none⟩ = some (.slice none 0 0) ∧ w'.cell? ⟨w.heap.size, 0, none⟩ = some (.slice (some ⟨b, off, none⟩) C.pods.length pc)) W.drew := HS0
  refine htake_0 (.pointer (some ⟨w.heap.size + 1 + 1, 0, none⟩)) (by kernel_rfl) (by kernel_rfl) (by kernel_rfl) rfl (fun _ _ _ h => h) (fun w' hSw => by (obtain ⟨s0, s1⟩ := hSw; go_simp)) hS0 ?_
  try simp only [Act.put, List.setIfInBounds_toArray, List.set_cons_zero, List.set_cons_succ]
  refine htake_1 (.slice none 0 0) (by kernel_rfl) (by kernel_rfl) (by kernel_rfl) rfl (fun _ _ _ h => h) (fun w' hSw => by (obtain ⟨s0, s1⟩ := hSw; go_simp)) hS0 ?_
  try simp only [Act.put, List.setIfInBounds_toArray, List.set_cons_zero, List.set_cons_succ]
  refine htake_2 (.pointer (some ⟨w.heap.size, 0, none⟩)) (by kernel_rfl) (by kernel_rfl) (by kernel_rfl) rfl (fun _ _ _ h => h) (fun w' hSw => by (obtain ⟨s0, s1⟩ := hSw; go_simp)) hS0 ?_
  try simp only [Act.put, List.setIfInBounds_toArray, List.set_cons_zero, List.set_cons_succ]
  refine htake_3 (.slice (some ⟨b, off, none⟩) C.pods.length pc) (by kernel_rfl) (by kernel_rfl) (by kernel_rfl) rfl (fun _ _ _ h => h) (fun w' hSw => by (obtain ⟨s0, s1⟩ := hSw; go_simp)) hS0 ?_
  try simp only [Act.put, List.setIfInBounds_toArray, List.set_cons_zero, List.set_cons_succ]
  refine htake_4 (.int .i64 (k : Int)) (by kernel_rfl) (by kernel_rfl) (by kernel_rfl) rfl (fun _ _ _ h => h) (fun w' hSw => by (obtain ⟨s0, s1⟩ := hSw; go_simp)) hS0 ?_
  try simp only [Act.put, List.setIfInBounds_toArray, List.set_cons_zero, List.set_cons_succ]
  refine htake_5 (.slice (some ⟨b, off, none⟩) k pc) (by kernel_rfl) (by kernel_rfl) (by kernel_rfl) rfl (fun _ _ _ h => h) (fun w' hSw => by (obtain ⟨s0, s1⟩ := hSw; go_simp)) hS0 ?_
  try simp only [Act.put, List.setIfInBounds_toArray, List.set_cons_zero, List.set_cons_succ]
  refine hone_6 (by kernel_rfl) rfl (fun K hK => ?_)
  refine wp_append_list _ (.tmp 28) (.tmp 32) 25 rfl W.heap.size 54 ip0 _ 4 32 Tryz.underlying25 hip ipz0 ipz1 ipz2 rfl (by decide) (.slice none 0 0) 0 [] rfl (World.ownsRow_nil _ _ _ _) (some ⟨b, off, none⟩) k pc ((C.pods.take k).flatMap encPod) rfl ((oflat_len (k := 4) (fun _ => rfl) _).trans (by rw [List.length_take]; congr 1; omega)) (news_of (k := 4) (fun _ => rfl) (by decide) (rd_take HPW.out k) (fun _ _ _ => ePod_cells)) (encPods_one _) (by unfold maxLen; omega) (by omega) (Nat.le_refl _) ?_
  intro v3 w3 hown3 hg3
  rw [Nat.zero_add, List.nil_append] at hown3
  obtain ⟨a3, c3, rfl, hc3, _⟩ := own_slice hown3
  have HO3 := hid hown3
  have HB3 := hid (show Below W.heap.size W w3 from ⟨hg3.os, hg3.tape, hg3.output, hg3.size, fun b hb => hg3.block b hb (by simp [Value.ownBlock])⟩)
  have KX3 := hid ((HB3.out.block (w.heap.size + 1 + 1) (by have := HSW.out; omega)).trans KX.out)
  have KC3 := hid ((HB3.out.block w.heap.size (by have := HSW.out; omega)).trans KC.out)
  have KR3 := hid ((HB3.out.block (w.heap.size + 1) (by have := HSW.out; omega)).trans KR.out)
  have t0 : w3.cell? ⟨w.heap.size + 1 + 1, 0, none⟩ = some (.slice none 0 0) := (blk_cell KX3.out 0).trans rfl
  have t1 : w3.cell? ⟨w.heap.size, 0, none⟩ = some (.slice (some ⟨b, off, none⟩) C.pods.length pc) := (blk_cell KC3.out 0).trans rfl
  have tf := blk_frozen KX3.out
  clear hown3 hg3
  refine hK _ _ ⟨t0, t1⟩ ?_
  refine wpAnyH_done (by kernel_rfl) ?_ _
  show wpList _ _ _ _ _ _
  try simp only [Act.put, List.setIfInBounds_toArray, List.set_cons_zero, List.set_cons_succ]
  clear hK hS0 HS0
  go_wp2_with fail
  have KX4 := hid (show (w3.setCell ⟨w.heap.size + 1 + 1, 0, none⟩ (.slice a3 k c3)).heap[w.heap.size + 1 + 1]? = some (.cells #[.slice a3 k c3, .slice none 0 0] 28 (0, 0)) from (set_blk KX3.out 0 (.slice a3 k c3)).trans rfl)
  have KC4 := hid ((Below.heap_setCell w3 ⟨w.heap.size + 1 + 1, 0, none⟩ (.slice a3 k c3) w.heap.size (by show _ ≠ w.heap.size + 1 + 1; omega)).trans KC3.out)
  have KR4 := hid ((Below.heap_setCell w3 ⟨w.heap.size + 1 + 1, 0, none⟩ (.slice a3 k c3) (w.heap.size + 1) (by show _ ≠ w.heap.size + 1 + 1; omega)).trans KR3.out)
  have HO4 := hid (row_set HO3.out ⟨w.heap.size + 1 + 1, 0, none⟩ (.slice a3 k c3) (by show w.heap.size + 1 + 1 < _; have := HSW.out; omega))
  have HB4 := hid (show Below w.heap.size w (w3.setCell ⟨w.heap.size + 1 + 1, 0, none⟩ (.slice a3 k c3)) from (Ext.trans HBW.out HB3.out).setCell (by show w.heap.size ≤ w.heap.size + 1 + 1; omega) _)
  have HW4 := hid (show W.heap.size ≤ (w3.setCell ⟨w.heap.size + 1 + 1, 0, none⟩ (.slice a3 k c3)).heap.size by rw [World.size_setCell]; exact HB3.out.size)
  generalize w3.setCell ⟨w.heap.size + 1 + 1, 0, none⟩ (.slice a3 k c3) = X at KX4 KC4 KR4 HO4 HB4 HW4 ⊢
  clear t0 t1 tf
  have HS0 : X.drew.cell? ⟨w.heap.size + 1 + 1, 0, none⟩ = some (.slice a3 k c3) ∧ X.drew.cell? ⟨w.heap.size, 0, none⟩ = some (.slice (some ⟨b, off, none⟩) C.pods.length pc) := ⟨(blk_cell KX4.out 0).trans rfl, (blk_cell KC4.out 0).trans rfl⟩
  have HPX := hid (show rdPods X.heap.size X.drew (some ⟨b, off, none⟩) C.pods from rdPods.ext ((Below.refl X.heap.size X).drew) (Nat.le_refl _) (rdPods.sub (sub_in HB4.out) HB4.out.size HP.out))
  have hc3' : k ≤ c3 := hc3
  by_cases hqk : pc = k + 1
  · have HQK := hid hqk
    have HD0 := hid (show C.pods.drop (k + 1) = [] from List.drop_eq_nil_of_le (by omega))
    clear hqk
    refine wp_region_held_tail (S := (fun w' : World => w'.cell? ⟨w.heap.size + 1 + 1, 0, none⟩ = some (.slice a3 k c3) ∧ w'.cell? ⟨w.heap.size, 0, none⟩ = some (.slice (some ⟨b, off, none⟩) C.pods.length pc))) 8 (by kernel_rfl) (by kernel_rfl) ?_
    simp only [takes_8, drops_8]
    have hS0 : (fun w' : World => w'.cell? ⟨w.heap.size + 1 + 1, 0, none⟩ = some (.slice a3 k c3) ∧ w'.cell? ⟨w.heap.size, 0, none⟩ = some (.slice (some ⟨b, off, none⟩) C.pods.length pc)) X.drew := HS0
    refine htake_0 (.pointer (some ⟨w.heap.size + 1 + 1, 0, none⟩)) (by kernel_rfl) (by kernel_rfl) (by kernel_rfl) rfl (fun _ _ _ h => h) (fun w' hSw => by (obtain ⟨s0, s1⟩ := hSw; go_simp)) hS0 ?_
    try simp only [Act.put, List.setIfInBounds_toArray, List.set_cons_zero, List.set_cons_succ]
    refine htake_1 (.slice a3 k c3) (by kernel_rfl) (by kernel_rfl) (by kernel_rfl) rfl (fun _ _ _ h => h) (fun w' hSw => by (obtain ⟨s0, s1⟩ := hSw; go_simp)) hS0 ?_
    try simp only [Act.put, List.setIfInBounds_toArray, List.set_cons_zero, List.set_cons_succ]
    refine htake_2 (.pointer (some ⟨w.heap.size, 0, none⟩)) (by kernel_rfl) (by kernel_rfl) (by kernel_rfl) rfl (fun _ _ _ h => h) (fun w' hSw => by (obtain ⟨s0, s1⟩ := hSw; go_simp)) hS0 ?_
    try simp only [Act.put, List.setIfInBounds_toArray, List.set_cons_zero, List.set_cons_succ]
    refine htake_3 (.slice (some ⟨b, off, none⟩) C.pods.length pc) (by kernel_rfl) (by kernel_rfl) (by kernel_rfl) rfl (fun _ _ _ h => h) (fun w' hSw => by (obtain ⟨s0, s1⟩ := hSw; go_simp)) hS0 ?_
    try simp only [Act.put, List.setIfInBounds_toArray, List.set_cons_zero, List.set_cons_succ]
    refine htake_4 (.int .i64 (k : Int)) (by kernel_rfl) (by kernel_rfl) (by kernel_rfl) rfl (fun _ _ _ h => h) (fun w' hSw => by (obtain ⟨s0, s1⟩ := hSw; go_simp)) hS0 ?_
    try simp only [Act.put, List.setIfInBounds_toArray, List.set_cons_zero, List.set_cons_succ]
    refine htake_5 (.int .i64 ((k : Int) + 1)) (by kernel_rfl) (by kernel_rfl) (by kernel_rfl) rfl (fun _ _ _ h => h) (fun w' hSw => by (obtain ⟨s0, s1⟩ := hSw; go_simp)) hS0 ?_
    try simp only [Act.put, List.setIfInBounds_toArray, List.set_cons_zero, List.set_cons_succ]
    refine htake_6 (.slice (some ⟨b, off, none⟩) (C.pods.length - (k + 1)) (pc - (k + 1))) (by kernel_rfl) (by kernel_rfl) (by kernel_rfl) rfl (fun _ _ _ h => h) (fun w' hSw => by (obtain ⟨s0, s1⟩ := hSw; have eq := HQK.out; go_simp)) hS0 ?_
    try simp only [Act.put, List.setIfInBounds_toArray, List.set_cons_zero, List.set_cons_succ]
    refine hone_7 (by kernel_rfl) rfl (fun K hK => ?_)
    refine wp_append_list _ (.tmp 36) (.tmp 41) 25 rfl W.heap.size 54 ip0 _ 4 32 Tryz.underlying25 hip ipz0 ipz1 ipz2 rfl (by decide) (.slice a3 k c3) k ((C.pods.take k).flatMap encPod) rfl (own_to HO4.out ((Below.refl _ X).drew)) (some ⟨b, off, none⟩) (C.pods.length - (k + 1)) (pc - (k + 1)) ((C.pods.drop (k + 1)).flatMap encPod) rfl ((oflat_len (k := 4) (fun _ => rfl) _).trans (by rw [List.length_drop])) (news_of (k := 4) (fun _ => rfl) (by decide) (show rdPods X.heap.size X.drew (some ⟨b, off, none⟩) (C.pods.drop (k + 1)) by rw [HD0.out]; exact rd_nil _ _ _ _ _ _) (fun _ _ _ => ePod_cells)) (encPods_one _) (by unfold maxLen; omega) (by omega) HW4.out ?_
    intro v5 w5 hown5 hg5
    rw [← List.flatMap_append, ← HD.out, show k + (C.pods.length - (k + 1)) = D.length by omega] at hown5
    obtain ⟨a5, c5, rfl, hc5, _⟩ := own_slice hown5
    have HO5 := hid hown5
    have HB5 := hid (show Below W.heap.size X w5 from ⟨hg5.os, hg5.tape, hg5.output, hg5.size, fun b hb => hg5.block b (Nat.lt_of_lt_of_le hb HW4.out) (fun e => by have := (HO4.out.lt _ e.symm).1; omega)⟩)
    have KX5 := hid ((HB5.out.block (w.heap.size + 1 + 1) (by have := HSW.out; omega)).trans KX4.out)
    have KC5 := hid ((HB5.out.block w.heap.size (by have := HSW.out; omega)).trans KC4.out)
    have KR5 := hid ((HB5.out.block (w.heap.size + 1) (by have := HSW.out; omega)).trans KR4.out)
    have HBw5 := hid (show Below w.heap.size w w5 from HB4.out.trans (HB5.out.mono (by have := HSW.out; omega)))
    have x0 : w5.cell? ⟨w.heap.size + 1 + 1, 0, none⟩ = some (.slice a3 k c3) := (blk_cell KX5.out 0).trans rfl
    have x1 : w5.cell? ⟨w.heap.size + 1 + 1, 1, none⟩ = some (.slice none 0 0) := (blk_cell KX5.out 1).trans rfl
    have xf := blk_frozen KX5.out
    have c0 : w5.cell? ⟨w.heap.size, 0, none⟩ = some (.slice (some ⟨b, off, none⟩) C.pods.length pc) := (blk_cell KC5.out 0).trans rfl
    have c1 : w5.cell? ⟨w.heap.size, 1, none⟩ = some (.slice qa C.pols.length qc) := (blk_cell KC5.out 1).trans rfl
    have q1 : w5.cell? ⟨b, off + k * 4 + 1, none⟩ = some (.int .i64 p.ip) := cell_to HE1.out HBw5.out
    have q2 : ¬ b = w.heap.size + 1 + 1 := by omega
    have q3 : ¬ w.heap.size + 1 + 1 = b := by omega
    clear hown5 hg5
    refine hK _ _ ⟨x0, c0⟩ ?_
    refine wpAnyH_done (by kernel_rfl) ?_ _
    show wpList _ _ _ _ _ _
    try simp only [Act.put, List.setIfInBounds_toArray, List.set_cons_zero, List.set_cons_succ]
    clear hK hS0 HS0
    go_wp2_with fail
    have KXZ := hid (show ((w5.setCell ⟨w.heap.size + 1 + 1, 0, none⟩ (.slice a5 D.length c5)).setCell ⟨w.heap.size + 1 + 1, 1, none⟩ (.slice qa C.pols.length qc)).heap[w.heap.size + 1 + 1]? = some (.cells #[.slice a5 D.length c5, .slice qa C.pols.length qc] 28 (0, 0)) from (set_blk (set_blk KX5.out 0 (.slice a5 D.length c5)) 1 (.slice qa C.pols.length qc)).trans rfl)
    have KRZ := hid ((Below.heap_setCell (w5.setCell ⟨w.heap.size + 1 + 1, 0, none⟩ (.slice a5 D.length c5)) ⟨w.heap.size + 1 + 1, 1, none⟩ (.slice qa C.pols.length qc) (w.heap.size + 1) (by show _ ≠ w.heap.size + 1 + 1; omega)).trans ((Below.heap_setCell w5 ⟨w.heap.size + 1 + 1, 0, none⟩ (.slice a5 D.length c5) (w.heap.size + 1) (by show _ ≠ w.heap.size + 1 + 1; omega)).trans KR5.out))
    have HOZ := hid (row_set (row_set HO5.out ⟨w.heap.size + 1 + 1, 0, none⟩ (.slice a5 D.length c5) (by show w.heap.size + 1 + 1 < _; have := HSW.out; omega)) ⟨w.heap.size + 1 + 1, 1, none⟩ (.slice qa C.pols.length qc) (by show w.heap.size + 1 + 1 < _; have := HSW.out; omega))
    have HBZ := hid (show Below w.heap.size w ((w5.setCell ⟨w.heap.size + 1 + 1, 0, none⟩ (.slice a5 D.length c5)).setCell ⟨w.heap.size + 1 + 1, 1, none⟩ (.slice qa C.pols.length qc)) from (HBw5.out.setCell (by show w.heap.size ≤ w.heap.size + 1 + 1; omega) _).setCell (by show w.heap.size ≤ w.heap.size + 1 + 1; omega) _)
    have HWZ := hid (show W.heap.size ≤ ((w5.setCell ⟨w.heap.size + 1 + 1, 0, none⟩ (.slice a5 D.length c5)).setCell ⟨w.heap.size + 1 + 1, 1, none⟩ (.slice qa C.pols.length qc)).heap.size by rw [World.size_setCell, World.size_setCell]; exact Nat.le_trans HW4.out HB5.out.size)
    generalize (w5.setCell ⟨w.heap.size + 1 + 1, 0, none⟩ (.slice a5 D.length c5)).setCell ⟨w.heap.size + 1 + 1, 1, none⟩ (.slice qa C.pols.length qc) = Z at KXZ KRZ HOZ HBZ HWZ ⊢
    clear x0 x1 xf c0 c1 q1
    refine (HDROP.out Z HBZ.out).mono ?_
    rintro e w6 ⟨rfl, t0, t1, t2, ht6, hT6, hg6⟩
    have HT6 := hid ht6
    have HTC6 := hid hT6
    have HG6 := hid hg6
    have KX6 := hid ((hg6.block (w.heap.size + 1 + 1) (by have := HSW.out; have := HWZ.out; omega) (fun e => by cases e; have := HTL.out; omega)).trans KXZ.out)
    have KR6 := hid ((hg6.block (w.heap.size + 1) (by have := HSW.out; have := HWZ.out; omega) (fun e => by cases e; have := HTL.out; omega)).trans KRZ.out)
    have y0 : w6.cell? ⟨w.heap.size + 1 + 1, 0, none⟩ = some (.slice a5 D.length c5) := (blk_cell KX6.out 0).trans rfl
    have y1 : w6.cell? ⟨w.heap.size + 1 + 1, 1, none⟩ = some (.slice qa C.pols.length qc) := (blk_cell KX6.out 1).trans rfl
    have r0 : w6.cell? ⟨w.heap.size + 1, 0, none⟩ = some (.slice none 0 0) := (blk_cell KR6.out 0).trans rfl
    have r1 : w6.cell? ⟨w.heap.size + 1, 1, none⟩ = some (.slice none 0 0) := (blk_cell KR6.out 1).trans rfl
    have rf := blk_frozen KR6.out
    clear ht6 hT6 hg6
    go_wp2
    have HWS := hid (FwWs.set (v := .slice a5 D.length c5) (v' := .slice qa C.pols.length qc) HBZ.out HG6.out (show w.heap.size ≤ w.heap.size + 1 by omega) (show w.heap.size + 1 < W.heap.size by have := HSW.out; omega) HWZ.out HTL.out)
    have KRF := (set_blk (set_blk KR6.out 0 (.slice a5 D.length c5)) 1 (.slice qa C.pols.length qc))
    have g0 := (blk_cell KRF 0).trans rfl
    have g1 := (blk_cell KRF 1).trans rfl
    generalize (w6.setCell ⟨w.heap.size + 1, 0, none⟩ (.slice a5 D.length c5)).setCell ⟨w.heap.size + 1, 1, none⟩ (.slice qa C.pols.length qc) = F at HWS g0 g1 ⊢
    refine bodyPost_ret (v := .tuple #[.agg #[.slice a5 D.length c5, .slice qa C.pols.length qc], .bool true]) (by simp [results, Tryz.results26, go_sem, g0, g1]) rfl ?_
    obtain ⟨a', c', e', _, hrd⟩ := own_pods (HWS.out.own HGL.out HOZ.out) (by omega)
    injection e' with e1 e2 e3
    subst e1
    rw [hide_size] at hrd
    exact ⟨a5, c5, qa, qc, t0, t1, t2, rfl, ⟨hc5, hqc⟩, hrd, rdPols.sub (HWS.out.old HGT.out) HWS.out.frame.size HQ.out, HWS.out.at HT6.out, HWS.out.tab HGL.out HTC6.out, HWS.out.frame⟩
  · have hqk2 : ¬ pc = k + 1 := hqk
    refine wp_region_held_tail (S := (fun w' : World => w'.cell? ⟨w.heap.size + 1 + 1, 0, none⟩ = some (.slice a3 k c3) ∧ w'.cell? ⟨w.heap.size, 0, none⟩ = some (.slice (some ⟨b, off, none⟩) C.pods.length pc))) 8 (by kernel_rfl) (by kernel_rfl) ?_
    simp only [takes_8, drops_8]
    have hS0 : (fun w' : World => w'.cell? ⟨w.heap.size + 1 + 1, 0, none⟩ = some (.slice a3 k c3) ∧ w'.cell? ⟨w.heap.size, 0, none⟩ = some (.slice (some ⟨b, off, none⟩) C.pods.length pc)) X.drew := HS0
    refine htake_0 (.pointer (some ⟨w.heap.size + 1 + 1, 0, none⟩)) (by kernel_rfl) (by kernel_rfl) (by kernel_rfl) rfl (fun _ _ _ h => h) (fun w' hSw => by (obtain ⟨s0, s1⟩ := hSw; go_simp)) hS0 ?_
    try simp only [Act.put, List.setIfInBounds_toArray, List.set_cons_zero, List.set_cons_succ]
    refine htake_1 (.slice a3 k c3) (by kernel_rfl) (by kernel_rfl) (by kernel_rfl) rfl (fun _ _ _ h => h) (fun w' hSw => by (obtain ⟨s0, s1⟩ := hSw; go_simp)) hS0 ?_
    try simp only [Act.put, List.setIfInBounds_toArray, List.set_cons_zero, List.set_cons_succ]
    refine htake_2 (.pointer (some ⟨w.heap.size, 0, none⟩)) (by kernel_rfl) (by kernel_rfl) (by kernel_rfl) rfl (fun _ _ _ h => h) (fun w' hSw => by (obtain ⟨s0, s1⟩ := hSw; go_simp)) hS0 ?_
    try simp only [Act.put, List.setIfInBounds_toArray, List.set_cons_zero, List.set_cons_succ]
    refine htake_3 (.slice (some ⟨b, off, none⟩) C.pods.length pc) (by kernel_rfl) (by kernel_rfl) (by kernel_rfl) rfl (fun _ _ _ h => h) (fun w' hSw => by (obtain ⟨s0, s1⟩ := hSw; go_simp)) hS0 ?_
    try simp only [Act.put, List.setIfInBounds_toArray, List.set_cons_zero, List.set_cons_succ]
    refine htake_4 (.int .i64 (k : Int)) (by kernel_rfl) (by kernel_rfl) (by kernel_rfl) rfl (fun _ _ _ h => h) (fun w' hSw => by (obtain ⟨s0, s1⟩ := hSw; go_simp)) hS0 ?_
    try simp only [Act.put, List.setIfInBounds_toArray, List.set_cons_zero, List.set_cons_succ]
    refine htake_5 (.int .i64 ((k : Int) + 1)) (by kernel_rfl) (by kernel_rfl) (by kernel_rfl) rfl (fun _ _ _ h => h) (fun w' hSw => by (obtain ⟨s0, s1⟩ := hSw; go_simp)) hS0 ?_
    try simp only [Act.put, List.setIfInBounds_toArray, List.set_cons_zero, List.set_cons_succ]
    refine htake_6 (.slice (some ⟨b, off + (k + 1) * 4, none⟩) (C.pods.length - (k + 1)) (pc - (k + 1))) (by kernel_rfl) (by kernel_rfl) (by kernel_rfl) rfl (fun _ _ _ h => h) (fun w' hSw => by (obtain ⟨s0, s1⟩ := hSw; go_simp)) hS0 ?_
    try simp only [Act.put, List.setIfInBounds_toArray, List.set_cons_zero, List.set_cons_succ]
    refine hone_7 (by kernel_rfl) rfl (fun K hK => ?_)
    refine wp_append_list _ (.tmp 36) (.tmp 41) 25 rfl W.heap.size 54 ip0 _ 4 32 Tryz.underlying25 hip ipz0 ipz1 ipz2 rfl (by decide) (.slice a3 k c3) k ((C.pods.take k).flatMap encPod) rfl (own_to HO4.out ((Below.refl _ X).drew)) (some ⟨b, off + (k + 1) * 4, none⟩) (C.pods.length - (k + 1)) (pc - (k + 1)) ((C.pods.drop (k + 1)).flatMap encPod) rfl ((oflat_len (k := 4) (fun _ => rfl) _).trans (by rw [List.length_drop])) (news_of (k := 4) (fun _ => rfl) (by decide) (rd_drop HPX.out (k + 1)) (fun _ _ _ => ePod_cells)) (encPods_one _) (by unfold maxLen; omega) (by omega) HW4.out ?_
    intro v5 w5 hown5 hg5
    rw [← List.flatMap_append, ← HD.out, show k + (C.pods.length - (k + 1)) = D.length by omega] at hown5
    obtain ⟨a5, c5, rfl, hc5, _⟩ := own_slice hown5
    have HO5 := hid hown5
    have HB5 := hid (show Below W.heap.size X w5 from ⟨hg5.os, hg5.tape, hg5.output, hg5.size, fun b hb => hg5.block b (Nat.lt_of_lt_of_le hb HW4.out) (fun e => by have := (HO4.out.lt _ e.symm).1; omega)⟩)
    have KX5 := hid ((HB5.out.block (w.heap.size + 1 + 1) (by have := HSW.out; omega)).trans KX4.out)
    have KC5 := hid ((HB5.out.block w.heap.size (by have := HSW.out; omega)).trans KC4.out)
    have KR5 := hid ((HB5.out.block (w.heap.size + 1) (by have := HSW.out; omega)).trans KR4.out)
    have HBw5 := hid (show Below w.heap.size w w5 from HB4.out.trans (HB5.out.mono (by have := HSW.out; omega)))
    have x0 : w5.cell? ⟨w.heap.size + 1 + 1, 0, none⟩ = some (.slice a3 k c3) := (blk_cell KX5.out 0).trans rfl
    have x1 : w5.cell? ⟨w.heap.size + 1 + 1, 1, none⟩ = some (.slice none 0 0) := (blk_cell KX5.out 1).trans rfl
    have xf := blk_frozen KX5.out
    have c0 : w5.cell? ⟨w.heap.size, 0, none⟩ = some (.slice (some ⟨b, off, none⟩) C.pods.length pc) := (blk_cell KC5.out 0).trans rfl
    have c1 : w5.cell? ⟨w.heap.size, 1, none⟩ = some (.slice qa C.pols.length qc) := (blk_cell KC5.out 1).trans rfl
    have q1 : w5.cell? ⟨b, off + k * 4 + 1, none⟩ = some (.int .i64 p.ip) := cell_to HE1.out HBw5.out
    have q2 : ¬ b = w.heap.size + 1 + 1 := by omega
    have q3 : ¬ w.heap.size + 1 + 1 = b := by omega
    clear hown5 hg5
    refine hK _ _ ⟨x0, c0⟩ ?_
    refine wpAnyH_done (by kernel_rfl) ?_ _
    show wpList _ _ _ _ _ _
    try simp only [Act.put, List.setIfInBounds_toArray, List.set_cons_zero, List.set_cons_succ]
    clear hK hS0 HS0
    go_wp2_with fail
    have KXZ := hid (show ((w5.setCell ⟨w.heap.size + 1 + 1, 0, none⟩ (.slice a5 D.length c5)).setCell ⟨w.heap.size + 1 + 1, 1, none⟩ (.slice qa C.pols.length qc)).heap[w.heap.size + 1 + 1]? = some (.cells #[.slice a5 D.length c5, .slice qa C.pols.length qc] 28 (0, 0)) from (set_blk (set_blk KX5.out 0 (.slice a5 D.length c5)) 1 (.slice qa C.pols.length qc)).trans rfl)
    have KRZ := hid ((Below.heap_setCell (w5.setCell ⟨w.heap.size + 1 + 1, 0, none⟩ (.slice a5 D.length c5)) ⟨w.heap.size + 1 + 1, 1, none⟩ (.slice qa C.pols.length qc) (w.heap.size + 1) (by show _ ≠ w.heap.size + 1 + 1; omega)).trans ((Below.heap_setCell w5 ⟨w.heap.size + 1 + 1, 0, none⟩ (.slice a5 D.length c5) (w.heap.size + 1) (by show _ ≠ w.heap.size + 1 + 1; omega)).trans KR5.out))
    have HOZ := hid (row_set (row_set HO5.out ⟨w.heap.size + 1 + 1, 0, none⟩ (.slice a5 D.length c5) (by show w.heap.size + 1 + 1 < _; have := HSW.out; omega)) ⟨w.heap.size + 1 + 1, 1, none⟩ (.slice qa C.pols.length qc) (by show w.heap.size + 1 + 1 < _; have := HSW.out; omega))
    have HBZ := hid (show Below w.heap.size w ((w5.setCell ⟨w.heap.size + 1 + 1, 0, none⟩ (.slice a5 D.length c5)).setCell ⟨w.heap.size + 1 + 1, 1, none⟩ (.slice qa C.pols.length qc)) from (HBw5.out.setCell (by show w.heap.size ≤ w.heap.size + 1 + 1; omega) _).setCell (by show w.heap.size ≤ w.heap.size + 1 + 1; omega) _)
    have HWZ := hid (show W.heap.size ≤ ((w5.setCell ⟨w.heap.size + 1 + 1, 0, none⟩ (.slice a5 D.length c5)).setCell ⟨w.heap.size + 1 + 1, 1, none⟩ (.slice qa C.pols.length qc)).heap.size by rw [World.size_setCell, World.size_setCell]; exact Nat.le_trans HW4.out HB5.out.size)
    generalize (w5.setCell ⟨w.heap.size + 1 + 1, 0, none⟩ (.slice a5 D.length c5)).setCell ⟨w.heap.size + 1 + 1, 1, none⟩ (.slice qa C.pols.length qc) = Z at KXZ KRZ HOZ HBZ HWZ ⊢
    clear x0 x1 xf c0 c1 q1
    refine (HDROP.out Z HBZ.out).mono ?_
    rintro e w6 ⟨rfl, t0, t1, t2, ht6, hT6, hg6⟩
    have HT6 := hid ht6
    have HTC6 := hid hT6
    have HG6 := hid hg6
    have KX6 := hid ((hg6.block (w.heap.size + 1 + 1) (by have := HSW.out; have := HWZ.out; omega) (fun e => by cases e; have := HTL.out; omega)).trans KXZ.out)
    have KR6 := hid ((hg6.block (w.heap.size + 1) (by have := HSW.out; have := HWZ.out; omega) (fun e => by cases e; have := HTL.out; omega)).trans KRZ.out)
    have y0 : w6.cell? ⟨w.heap.size + 1 + 1, 0, none⟩ = some (.slice a5 D.length c5) := (blk_cell KX6.out 0).trans rfl
    have y1 : w6.cell? ⟨w.heap.size + 1 + 1, 1, none⟩ = some (.slice qa C.pols.length qc) := (blk_cell KX6.out 1).trans rfl
    have r0 : w6.cell? ⟨w.heap.size + 1, 0, none⟩ = some (.slice none 0 0) := (blk_cell KR6.out 0).trans rfl
    have r1 : w6.cell? ⟨w.heap.size + 1, 1, none⟩ = some (.slice none 0 0) := (blk_cell KR6.out 1).trans rfl
    have rf := blk_frozen KR6.out
    clear ht6 hT6 hg6
    go_wp2
    have HWS := hid (FwWs.set (v := .slice a5 D.length c5) (v' := .slice qa C.pols.length qc) HBZ.out HG6.out (show w.heap.size ≤ w.heap.size + 1 by omega) (show w.heap.size + 1 < W.heap.size by have := HSW.out; omega) HWZ.out HTL.out)
    have KRF := (set_blk (set_blk KR6.out 0 (.slice a5 D.length c5)) 1 (.slice qa C.pols.length qc))
    have g0 := (blk_cell KRF 0).trans rfl
    have g1 := (blk_cell KRF 1).trans rfl
    generalize (w6.setCell ⟨w.heap.size + 1, 0, none⟩ (.slice a5 D.length c5)).setCell ⟨w.heap.size + 1, 1, none⟩ (.slice qa C.pols.length qc) = F at HWS g0 g1 ⊢
    refine bodyPost_ret (v := .tuple #[.agg #[.slice a5 D.length c5, .slice qa C.pols.length qc], .bool true]) (by simp [results, Tryz.results26, go_sem, g0, g1]) rfl ?_
    obtain ⟨a', c', e', _, hrd⟩ := own_pods (HWS.out.own HGL.out HOZ.out) (by omega)
    injection e' with e1 e2 e3
    subst e1
    rw [hide_size] at hrd
    exact ⟨a5, c5, qa, qc, t0, t1, t2, rfl, ⟨hc5, hqc⟩, hrd, rdPols.sub (HWS.out.old HGT.out) HWS.out.frame.size HQ.out, HWS.out.at HT6.out, HWS.out.tab HGL.out HTC6.out, HWS.out.frame⟩
end Go.Proofs.YtmkjlhplgcifiaaGreat
