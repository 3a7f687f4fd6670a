/-
  palisadekeep: awake, walked: it returns true.
  palisadekeep: Grown: a rule more in a list that is owned; what lies elsewhere reads on.
-/
import Derived.Test.YtmkjlhplgcifiaaGreatJ49
import Derived.Test.YtmkjlhplgcifiaaGreatJ22
import Derived.Test.YtmkjlhplgcifiaaGreatJ41
import Derived.Test.YtmkjlhplgcifiaaGreatJ46
import Derived.Test.YtmkjlhplgcifiaaGreatJ47
namespace Go.Proofs.YtmkjlhplgcifiaaGreat
open Go.ChangeShapes Go.WideShapes Go.ChangeAt Go.RowKit
attribute [local simp] World.cell?_grow
attribute [local go_sem] World.cell?_grow
attribute [local simp] World.cell?_alloc_there
attribute [local go_sem] World.cell?_alloc_there
attribute [local go_sem] eqg_blk std_blk eqg_pod std_pod eqg_sel std_sel eqg_prt std_prt
attribute [local go_sem ↓] eql_blk eql_sel neq_sel eql_prt eql_pod
attribute [local go_sem ↓] met_in1 met_in2 met_re1 met_re2
attribute [local go_sem ↓] met_has1 met_has2
attribute [local go_sem ↓] met_bl1 met_bl2
attribute [local go_sem] eqg_row std_row
attribute [local go_sem ↓] neq_row
set_option linter.unusedVariables false
set_option linter.unusedSimpArgs false
def awClu : DClu := ⟨[⟨0, 5, 0, 1⟩], [⟨0, 0, 0, 2, [], [⟨[⟨2, 0, 0, 0, 8, 29, []⟩], []⟩]⟩]⟩
theorem aw_right : (right awClu).1 = 0 := by decide +kernel
theorem aw_ok : cluOk awClu := right_zero aw_right
theorem aw_yes : allowed awClu ⟨9, 5, 2, 7⟩ = (true, 0) := by decide +kernel
theorem aw_no : allowed awClu ⟨16, 5, 2, 7⟩ = (false, 0) := by decide +kernel
theorem aw_yes2 : (may awClu 1 ⟨9, 5, 2, 7⟩ 9 5 && may awClu 2 ⟨9, 5, 2, 7⟩ 5 9) = true := by decide +kernel
theorem aw_no2 : (may awClu 1 ⟨16, 5, 2, 7⟩ 16 5 && may awClu 2 ⟨16, 5, 2, 7⟩ 5 16) = false := by decide +kernel
set_option maxRecDepth 100000 in
set_option maxHeartbeats 4000000 in
theorem awake_any (w : World) : Calls Tryz.prog 12 #[] w fun e w' => e = .returned (.bool true) ∧ Below w.heap.size w w' := by
  have HR := hid aw_right
  have HY := hid aw_yes
  have HN := hid aw_no
  have HY2 := hid aw_yes2
  have HN2 := hid aw_no2
  go_enter Tryz.func12, Tryz.ntmps12
  go_wp2_with fail
  generalize hW : ((((((((w.alloc (Obj.cells #[.int .i64 2, .int .i64 0, .int .i64 0, .int .i64 0, .int .i64 8, .int .i64 29, .slice none 0 0] 69)).alloc (Obj.cells #[.slice (some ⟨w.heap.size, 0, none⟩) 1 1, .slice none 0 0] 64)).alloc (Obj.cells #[.int .i64 0, .int .i64 5, .int .i64 0, .int .i64 1] 54)).alloc (Obj.cells #[.slice (some ⟨w.heap.size, 0, none⟩) 1 1, .slice none 0 0] 64)).alloc (Obj.cells #[.int .i64 0, .int .i64 0, .int .i64 0, .int .i64 2, .slice none 0 0, .slice (some ⟨w.heap.size + 1 + 1 + 1, 0, none⟩) 1 1] 59)).alloc (Obj.cells #[.slice (some ⟨w.heap.size + 1 + 1, 0, none⟩) 1 1, .slice (some ⟨w.heap.size + 1 + 1 + 1 + 1, 0, none⟩) 1 1] 28)).alloc (Obj.cells #[.int .i64 9, .int .i64 5, .int .i64 2, .int .i64 7] 30)).alloc (Obj.cells #[.int .i64 16, .int .i64 5, .int .i64 2, .int .i64 7] 30)) = W
  have hsW : W.heap.size = w.heap.size + 8 := by rw [← hW]; simp
  have HB := hid (show Below w.heap.size w W from by rw [← hW]; exact (by repeat (first | exact Below.refl _ _ | assumption | apply Ext.alloc | apply Ext.drewN | apply Ext.drew | refine Ext.trans ?_ (by assumption))))
  have x00 : W.cell? ⟨w.heap.size, 0, none⟩ = some (.int .i64 2) := by rw [← hW]; simp [go_sem]
  have x01 : W.cell? ⟨w.heap.size, 1, none⟩ = some (.int .i64 0) := by rw [← hW]; simp [go_sem]
  have x02 : W.cell? ⟨w.heap.size, 2, none⟩ = some (.int .i64 0) := by rw [← hW]; simp [go_sem]
  have x03 : W.cell? ⟨w.heap.size, 3, none⟩ = some (.int .i64 0) := by rw [← hW]; simp [go_sem]
  have x04 : W.cell? ⟨w.heap.size, 4, none⟩ = some (.int .i64 8) := by rw [← hW]; simp [go_sem]
  have x05 : W.cell? ⟨w.heap.size, 5, none⟩ = some (.int .i64 29) := by rw [← hW]; simp [go_sem]
  have x06 : W.cell? ⟨w.heap.size, 6, none⟩ = some (.slice none 0 0) := by rw [← hW]; simp [go_sem]
  have x10 : W.cell? ⟨w.heap.size + 1, 0, none⟩ = some (.slice (some ⟨w.heap.size, 0, none⟩) 1 1) := by rw [← hW]; simp [go_sem]
  have x11 : W.cell? ⟨w.heap.size + 1, 1, none⟩ = some (.slice none 0 0) := by rw [← hW]; simp [go_sem]
  have x20 : W.cell? ⟨w.heap.size + 1 + 1, 0, none⟩ = some (.int .i64 0) := by rw [← hW]; simp [go_sem]
  have x21 : W.cell? ⟨w.heap.size + 1 + 1, 1, none⟩ = some (.int .i64 5) := by rw [← hW]; simp [go_sem]
  have x22 : W.cell? ⟨w.heap.size + 1 + 1, 2, none⟩ = some (.int .i64 0) := by rw [← hW]; simp [go_sem]
  have x23 : W.cell? ⟨w.heap.size + 1 + 1, 3, none⟩ = some (.int .i64 1) := by rw [← hW]; simp [go_sem]
  have x30 : W.cell? ⟨w.heap.size + 1 + 1 + 1, 0, none⟩ = some (.slice (some ⟨w.heap.size, 0, none⟩) 1 1) := by rw [← hW]; simp [go_sem]
  have x31 : W.cell? ⟨w.heap.size + 1 + 1 + 1, 1, none⟩ = some (.slice none 0 0) := by rw [← hW]; simp [go_sem]
  have x40 : W.cell? ⟨w.heap.size + 1 + 1 + 1 + 1, 0, none⟩ = some (.int .i64 0) := by rw [← hW]; simp [go_sem]
  have x41 : W.cell? ⟨w.heap.size + 1 + 1 + 1 + 1, 1, none⟩ = some (.int .i64 0) := by rw [← hW]; simp [go_sem]
  have x42 : W.cell? ⟨w.heap.size + 1 + 1 + 1 + 1, 2, none⟩ = some (.int .i64 0) := by rw [← hW]; simp [go_sem]
  have x43 : W.cell? ⟨w.heap.size + 1 + 1 + 1 + 1, 3, none⟩ = some (.int .i64 2) := by rw [← hW]; simp [go_sem]
  have x44 : W.cell? ⟨w.heap.size + 1 + 1 + 1 + 1, 4, none⟩ = some (.slice none 0 0) := by rw [← hW]; simp [go_sem]
  have x45 : W.cell? ⟨w.heap.size + 1 + 1 + 1 + 1, 5, none⟩ = some (.slice (some ⟨w.heap.size + 1 + 1 + 1, 0, none⟩) 1 1) := by rw [← hW]; simp [go_sem]
  have x50 : W.cell? ⟨w.heap.size + 1 + 1 + 1 + 1 + 1, 0, none⟩ = some (.slice (some ⟨w.heap.size + 1 + 1, 0, none⟩) 1 1) := by rw [← hW]; simp [go_sem]
  have x51 : W.cell? ⟨w.heap.size + 1 + 1 + 1 + 1 + 1, 1, none⟩ = some (.slice (some ⟨w.heap.size + 1 + 1 + 1 + 1, 0, none⟩) 1 1) := by rw [← hW]; simp [go_sem]
  have x60 : W.cell? ⟨w.heap.size + 1 + 1 + 1 + 1 + 1 + 1, 0, none⟩ = some (.int .i64 9) := by rw [← hW]; simp [go_sem]
  have x61 : W.cell? ⟨w.heap.size + 1 + 1 + 1 + 1 + 1 + 1, 1, none⟩ = some (.int .i64 5) := by rw [← hW]; simp [go_sem]
  have x62 : W.cell? ⟨w.heap.size + 1 + 1 + 1 + 1 + 1 + 1, 2, none⟩ = some (.int .i64 2) := by rw [← hW]; simp [go_sem]
  have x63 : W.cell? ⟨w.heap.size + 1 + 1 + 1 + 1 + 1 + 1, 3, none⟩ = some (.int .i64 7) := by rw [← hW]; simp [go_sem]
  have x70 : W.cell? ⟨w.heap.size + 1 + 1 + 1 + 1 + 1 + 1 + 1, 0, none⟩ = some (.int .i64 16) := by rw [← hW]; simp [go_sem]
  have x71 : W.cell? ⟨w.heap.size + 1 + 1 + 1 + 1 + 1 + 1 + 1, 1, none⟩ = some (.int .i64 5) := by rw [← hW]; simp [go_sem]
  have x72 : W.cell? ⟨w.heap.size + 1 + 1 + 1 + 1 + 1 + 1 + 1, 2, none⟩ = some (.int .i64 2) := by rw [← hW]; simp [go_sem]
  have x73 : W.cell? ⟨w.heap.size + 1 + 1 + 1 + 1 + 1 + 1 + 1, 3, none⟩ = some (.int .i64 7) := by rw [← hW]; simp [go_sem]
  clear hW
  have hpods : rdPods W.heap.size W (some ⟨w.heap.size + 1 + 1, 0, none⟩) awClu.pods := rd_one (by decide) (by omega) ⟨x20, x21, x22, x23⟩
  have hpeer : rdPeers W.heap.size W (some ⟨w.heap.size, 0, none⟩) [⟨2, 0, 0, 0, 8, 29, []⟩] := rd_one (by decide) (by omega) ⟨x00, x01, x02, x03, x04, x05, none, 0, x06, rd_nil _ _ _ _ _ _⟩
  have hrule : rdRules W.heap.size W (some ⟨w.heap.size + 1 + 1 + 1, 0, none⟩) [⟨[⟨2, 0, 0, 0, 8, 29, []⟩], []⟩] := rd_one (by decide) (by omega) ⟨⟨_, _, x30, hpeer⟩, none, 0, x31, rd_nil _ _ _ _ _ _⟩
  have hpols : rdPols W.heap.size W (some ⟨w.heap.size + 1 + 1 + 1 + 1, 0, none⟩) awClu.pols := rd_one (by decide) (by omega) ⟨x40, x41, x42, x43, ⟨none, 0, x44, rd_nil _ _ _ _ _ _⟩, _, _, x45, hrule⟩
  have HP := hid hpods
  have HQ := hid hpols
  clear hpods hpeer hrule hpols
  clear x00 x01 x02 x03 x04 x05 x06 x10 x11 x20 x21 x22 x23 x30 x31 x40 x41 x42 x43 x44 x45
  refine (allowed_any awClu ⟨9, 5, 2, 7⟩ (some ⟨w.heap.size + 1 + 1, 0, none⟩) (some ⟨w.heap.size + 1 + 1 + 1 + 1, 0, none⟩) 1 1 W HP.out HQ.out (by decide)).mono ?_
  rw [HY.out]
  rintro e w1 ⟨rfl, hb1⟩
  have HB1 := hid hb1
  have hs1 := hb1.size
  have y50 := cell_to x50 hb1
  have y51 := cell_to x51 hb1
  have y60 := cell_to x60 hb1
  have y61 := cell_to x61 hb1
  have y62 := cell_to x62 hb1
  have y63 := cell_to x63 hb1
  have y70 := cell_to x70 hb1
  have y71 := cell_to x71 hb1
  have y72 := cell_to x72 hb1
  have y73 := cell_to x73 hb1
  clear x50 x51 x60 x61 x62 x63 x70 x71 x72 x73
  clear hb1
  go_wp2_with fail
  refine (allowed_any awClu ⟨16, 5, 2, 7⟩ (some ⟨w.heap.size + 1 + 1, 0, none⟩) (some ⟨w.heap.size + 1 + 1 + 1 + 1, 0, none⟩) 1 1 w1 (rdPods.to HP.out HB1.out) (rdPols.to HQ.out HB1.out) (by decide)).mono ?_
  rw [HN.out]
  rintro e w2 ⟨rfl, hb2⟩
  have HB2 := hid (Ext.trans HB1.out hb2)
  have hs2 := hb2.size
  have z50 := cell_to y50 hb2
  have z51 := cell_to y51 hb2
  have z60 := cell_to y60 hb2
  have z61 := cell_to y61 hb2
  have z62 := cell_to y62 hb2
  have z63 := cell_to y63 hb2
  have z70 := cell_to y70 hb2
  have z71 := cell_to y71 hb2
  have z72 := cell_to y72 hb2
  have z73 := cell_to y73 hb2
  clear y50 y51 y60 y61 y62 y63 y70 y71 y72 y73
  clear hb2
  go_wp2_with fail
  refine (compile_ok awClu (some ⟨w.heap.size + 1 + 1, 0, none⟩) (some ⟨w.heap.size + 1 + 1 + 1 + 1, 0, none⟩) 1 1 w2 (rdPods.to HP.out HB2.out) (rdPols.to HQ.out HB2.out) (by decide) HR.out).mono ?_
  rintro e w3 ⟨⟨tb, rfl, htb, u0, u1, u2, hT, hC⟩, hb3⟩
  obtain ⟨T, hTT⟩ := (TabC.at hC hT).as
  have HT := hid hTT
  have HB3 := hid (Ext.trans HB2.out hb3)
  have hs3 := hb3.size
  have t50 := cell_to z50 hb3
  have t51 := cell_to z51 hb3
  have t60 := cell_to z60 hb3
  have t61 := cell_to z61 hb3
  have t62 := cell_to z62 hb3
  have t63 := cell_to z63 hb3
  have t70 := cell_to z70 hb3
  have t71 := cell_to z71 hb3
  have t72 := cell_to z72 hb3
  have t73 := cell_to z73 hb3
  clear z50 z51 z60 z61 z62 z63 z70 z71 z72 z73
  clear hb3 hT hC hTT
  go_wp2_with fail
  refine (admits_any awClu T tb ⟨9, 5, 2, 7⟩ w3 HT.out (by decide) aw_ok).mono ?_
  rw [HY2.out]
  rintro e w4 ⟨rfl, hb4⟩
  have HB4 := hid (Ext.trans HB3.out hb4)
  have HT4 := hid (HT.out.to hb4)
  have hs4 := hb4.size
  have v50 := cell_to t50 hb4
  have v51 := cell_to t51 hb4
  have v60 := cell_to t60 hb4
  have v61 := cell_to t61 hb4
  have v62 := cell_to t62 hb4
  have v63 := cell_to t63 hb4
  have v70 := cell_to t70 hb4
  have v71 := cell_to t71 hb4
  have v72 := cell_to t72 hb4
  have v73 := cell_to t73 hb4
  clear t50 t51 t60 t61 t62 t63 t70 t71 t72 t73
  clear hb4
  go_wp2_with fail
  refine (admits_any awClu T tb ⟨16, 5, 2, 7⟩ w4 HT4.out (by decide) aw_ok).mono ?_
  rw [HN2.out]
  rintro e w5 ⟨rfl, hb5⟩
  have HB5 := hid (Ext.trans HB4.out hb5)
  clear hb5 v50 v51 v60 v61 v62 v63 v70 v71 v72 v73
  go_wp2_with fail
  go_ret
  exact ⟨rfl, Ext.trans HB.out HB5.out⟩
end Go.Proofs.YtmkjlhplgcifiaaGreat
namespace Go.Proofs.YtmkjlhplgcifiaaGreat
open Go.ChangeShapes Go.WideShapes Go.ChangeAt Go.RowKit
attribute [local simp] World.cell?_grow
attribute [local go_sem] World.cell?_grow
attribute [local simp] World.cell?_alloc_there
attribute [local go_sem] World.cell?_alloc_there
attribute [local go_sem] eqg_blk std_blk eqg_pod std_pod eqg_sel std_sel eqg_prt std_prt
attribute [local go_sem ↓] eql_blk eql_sel neq_sel eql_prt eql_pod
attribute [local go_sem ↓] met_in1 met_in2 met_re1 met_re2
attribute [local go_sem ↓] met_has1 met_has2
attribute [local go_sem ↓] met_bl1 met_bl2
attribute [local go_sem] eqg_row std_row
attribute [local go_sem ↓] neq_row
set_option linter.unusedVariables false
set_option linter.unusedSimpArgs false
/-- rules between two bounds, as they are read -/
theorem RulIn.rd {w : World} {v : Value} {l : List DRule} {lo hi : Nat} {H : Nat → Bool} (h : RulIn w v l lo hi) (hs : hi ≤ w.heap.size) (hl : l.length ≤ 1000) (hH : ∀ b, lo ≤ b → b < hi → H b = false) : ∃ a c, v = .slice a l.length c ∧ l.length ≤ c ∧ rdRules w.heap.size (hide w H) a l := by
  obtain ⟨xs, rfl, h2, h3, h4⟩ := h
  have ho : (hide w H).ownsRow lo 64 2 v xs.length (xs.flatMap encXRule) := own_stay h2 fun g hg => hide_block _ _ _ (hH g (h2.lt g hg).1 (h3 g hg))
  obtain ⟨a, c, e1, e2, e3⟩ := own_rd (E := fun B w b o (y : XRule) => eRule B w b o y.d) (bytes := 48) encXRule_len ho (by decide) (by rw [List.length_map] at hl; omega) fun b o y hy hb hc => by
    have hn : NRule (hide w H).heap.size (hide w H) y := NRule.mono _ _ _ _ y (Sub.hide fun b' _ hG => ⟨by
      simp only [Bool.or_eq_false_iff, decide_eq_false_iff_not] at hG
      exact hH b' (by omega) (by omega), rfl⟩) (by rw [hide_size]; exact hs) (h4 y hy)
    exact ⟨⟨y.pa, y.pc, hc 0 _ rfl, hn.1⟩, y.qa, y.qc, hc 1 _ rfl, hn.2⟩
  rw [hide_size] at e3
  refine ⟨a, c, by rw [List.length_map]; exact e1, by rw [List.length_map]; exact e2, by rw [List.length_map]; exact e3.1, fun i x hx => ?_⟩
  rw [List.getElem?_map] at hx
  obtain ⟨y, hy, rfl⟩ := Option.map_eq_some_iff.1 hx
  exact e3.2 i y hy
/-- rules, as they were made, and one more behind them: the row was written, or is new -/
theorem RulIn.more {w w' : World} {v v' : Value} {l : List DRule} {lo mid : Nat} {xr : XRule} {xs : List XRule} {H : Nat → Bool} (h1 : xs.map (·.d) = l) (h2 : w.ownsRow lo 64 2 v xs.length (xs.flatMap encXRule)) (h3 : ∀ g, v.ownBlock = some g → g < mid)
    (h4 : ∀ y ∈ xs, NRule mid (hide w (fun b => decide (b < lo) || decide (mid ≤ b) || decide (v.ownBlock = some b))) y) (hr : NRule w'.heap.size (hide w' H) xr) (hm : mid ≤ w.heap.size)
    (ho : w'.ownsRow lo 64 2 v' (xs.length + 1) (xs.flatMap encXRule ++ encXRule xr)) (hg : w.grownBy w' v.ownBlock) (ha : v'.ownBlock = v.ownBlock ∨ v'.ownBlock = some w.heap.size) (hl : l.length ≤ 1000) (hH : ∀ b, lo ≤ b → b < mid → H b = false) (hH2 : H w.heap.size = false) :
    ∃ a c, v' = .slice a (l ++ [xr.d]).length c ∧ (l ++ [xr.d]).length ≤ c ∧ rdRules w'.heap.size (hide w' H) a (l ++ [xr.d]) := by
  subst h1
  have hsz := hg.size
  have ho2 : w'.ownsRow lo 64 2 v' (xs ++ [xr]).length ((xs ++ [xr]).flatMap encXRule) := by rw [List.length_append, List.flatMap_append]; simpa using ho
  have ho3 : (hide w' H).ownsRow lo 64 2 v' (xs ++ [xr]).length ((xs ++ [xr]).flatMap encXRule) := own_stay ho2 fun g hg' => hide_block _ _ _ (by
    rcases ha with e | e
    · exact hH g (ho2.lt g hg').1 (h3 g (e ▸ hg'))
    · rw [e] at hg'; cases hg'; exact hH2)
  rw [List.length_map] at hl
  obtain ⟨a, c, e1, e2, e3⟩ := own_rd (E := fun B w b o (y : XRule) => eRule B w b o y.d) (bytes := 48) encXRule_len ho3 (by decide) (by rw [List.length_append, List.length_singleton]; omega) fun b o y hy hb hc => by
    have hn : NRule (hide w' H).heap.size (hide w' H) y := by
      rcases List.mem_append.1 hy with hy | hy
      · refine NRule.mono _ _ _ _ y (Sub.hide fun b' hb' hG => ?_) (by rw [hide_size]; omega) (h4 y hy)
        simp only [Bool.or_eq_false_iff, decide_eq_false_iff_not] at hG
        exact ⟨hH b' (by omega) (by omega), hg.block b' hb' (fun e => hG.2 e.symm)⟩
      · rw [List.mem_singleton] at hy; subst hy; rw [hide_size]; exact hr
    exact ⟨⟨y.pa, y.pc, hc 0 _ rfl, hn.1⟩, y.qa, y.qc, hc 1 _ rfl, hn.2⟩
  rw [hide_size] at e3
  have el : (xs ++ [xr]).length = (xs.map (·.d) ++ [xr.d]).length := by simp
  rw [el] at e1 e2
  refine ⟨a, c, e1, e2, ?_, fun i x hx => ?_⟩
  · have := e3.1; rw [el] at this; exact this
  · rw [show xs.map (·.d) ++ [xr.d] = (xs ++ [xr]).map (·.d) by simp, List.getElem?_map] at hx
    obtain ⟨y, hy, rfl⟩ := Option.map_eq_some_iff.1 hx
    exact e3.2 i y hy
/-- a policy's list, in a world that has what is not hidden -/
theorem rd_more {B B' : Nat} {w w' : World} {H : Nat → Bool} {a : Option Addr} {l : List DRule} (h : rdRules B (hide w H) a l) (hB : B ≤ B') (hb : ∀ b, b < w.heap.size → H b = false → w'.heap[b]? = w.heap[b]?) : rdRules B' w' a l := rdRules.sub (Sub.unhide hb) hB h
end Go.Proofs.YtmkjlhplgcifiaaGreat
