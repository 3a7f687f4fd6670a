/-
  slices.Grow of nil, slices.Concat of two lists: at pods and at policies.
  palisade.Compile.
  palisade: follow, AddPod, DropPod.
-/
import Derived.Test.YtmkjlhplgcifiaaGreatK08
import Derived.Test.YtmkjlhplgcifiaaGreatK05
import Derived.Test.YtmkjlhplgcifiaaGreatK13
import Derived.Test.YtmkjlhplgcifiaaGreatK21
import Derived.Lib.AppendZeros
namespace Go.Proofs.YtmkjlhplgcifiaaGreat
open Go.ChangeShapes Go.WideShapes Go.ChangeAt Go.RowKit
attribute [local simp] World.cell?_grow
attribute [local go_sem] World.cell?_grow
attribute [local simp] World.cell?_alloc_there
attribute [local go_sem] World.cell?_alloc_there
attribute [local go_sem] eqg_blk std_blk eqg_pod std_pod eqg_sel std_sel eqg_prt std_prt
attribute [local go_sem ↓] eql_blk eql_sel neq_sel eql_prt eql_pod
attribute [local go_sem ↓] met_in1 met_in2 met_re1 met_re2
attribute [local go_sem ↓] met_has1 met_has2
attribute [local go_sem ↓] met_bl1 met_bl2
set_option linter.unusedVariables false
set_option linter.unusedSimpArgs false
/-- an element, by its cells -/
def eCells {X : Type} (enc : X → List Value) (_B : Nat) (w : World) (b o : Nat) (x : X) : Prop := ∀ j u, (enc x)[j]? = some u → w.cell? ⟨b, o + j, none⟩ = some u
theorem cells_to {X : Type} {enc : X → List Value} {B k bytes : Nat} {w w' : World} {a : Option Addr} {l : List X} (h : RdSl w.heap.size w k bytes (eCells enc) a l) (hb : Below w.heap.size w w') (hB : w.heap.size ≤ B) : RdSl B w' k bytes (eCells enc) a l :=
  RdSl.ext h hB fun b o x hl he j u hj => by rw [hb.cell (p := ⟨b, o + j, none⟩) hl]; exact he j u hj
/-- an empty row with room -/
theorem own_room {w : World} {base g cap size : Nat} {e : TypeId} {cur : Array Value} (hg : w.heap[g]? = some (.cells cur e (0, 0))) (hb : base ≤ g) (hc : cap ≤ maxLen) (hs : cur.size = cap * size) : w.ownsRow base e size (.slice (some ⟨g, 0, none⟩) 0 cap) 0 [] :=
  ⟨by simp, .inr ⟨g, cap, cur, rfl, hb, hg, Nat.zero_le _, hc, hs, by simp⟩⟩
/-- the first loop of Concat: the sum so far -/
def CatAt (w : World) (l m : Nat) (sz i : Value) (wr : World) : Prop := wr = w ∧ ((i = .int .i64 0 ∧ sz = .int .i64 0) ∨ (i = .int .i64 1 ∧ sz = .int .i64 (l : Int)) ∨ (i = .int .i64 2 ∧ sz = .int .i64 ((l : Int) + (m : Int))))
/-- the second one: the list so far -/
def CatOwn {X : Type} (w : World) (T : TypeId) (k : Nat) (enc : X → List Value) (l m : List X) (v i : Value) (wr : World) : Prop :=
  Below w.heap.size w wr ∧ ((i = .int .i64 0 ∧ wr.ownsRow w.heap.size T k v 0 []) ∨ (i = .int .i64 1 ∧ wr.ownsRow w.heap.size T k v l.length (l.flatMap enc)) ∨ (i = .int .i64 2 ∧ wr.ownsRow w.heap.size T k v (l ++ m).length ((l ++ m).flatMap enc)))
set_option maxRecDepth 100000 in
set_option maxHeartbeats 2000000 in
theorem growPod (n : Nat) (w : World) (hn : n ≤ 1000) :
    Calls Tryz.prog 71 #[.slice none 0 0, .int .i64 (n : Int)] w fun e w' => ∃ v, e = .returned v ∧ w'.ownsRow w.heap.size 54 4 v 0 [] ∧ Below w.heap.size w w' := by
  obtain ⟨i0, hi, iz0, iz1, iz2⟩ := info_parts info_pod
  have h1 : ¬ ((n : Int) < 0) := by omega
  by_cases h0 : n = 0
  · subst h0
    go_enter Tryz.func71, Tryz.ntmps71
    go_wp2
    go_ret
    exact ⟨_, rfl, World.ownsRow_nil _ _ _ _, Below.refl _ _⟩
  · have h4 : (n : Int) > 0 := by omega
    have hw : wrap64 (n : Int) = n := by unfold wrap64; omega
    have hrz := fun ty => Lib.run_append_nil_zeros (P := Tryz.prog) w 25 3 ty 54 i0 _ .i64 .i64 Tryz.underlying25 Tryz.underlying3 hi iz0 n (by omega) (by rw [iz1]; decide) (by omega) (by rw [iz2]; omega)
    have hGn : n ≤ grownCap w n 0 54 := grownCap_ge w _ _ _
    have hGm : grownCap w n 0 54 ≤ maxLen := grownCap_le_maxLen w n 0 54 (by unfold maxLen; omega)
    obtain ⟨G, hG⟩ : ∃ G, G = grownCap w n 0 54 := ⟨_, rfl⟩
    rw [← hG] at hrz hGn hGm
    have hG63 : G ≤ 9223372036854775807 := by unfold maxLen at hGm; omega
    clear hG
    go_enter Tryz.func71, Tryz.ntmps71
    go_wp2_with (at_builtin; refine Lib.wpList_append_run _ rfl _ _ _ _ rfl _ _ rfl rfl _ _ (hrz _) ?_)
    go_ret
    exact ⟨_, rfl, own_room (g := w.heap.size) (new_heap w _) (Nat.le_refl _) hGm (by simp [Builtin.zeroCells]; omega), (by repeat (first | exact Below.refl _ _ | assumption | apply Ext.alloc | apply Ext.drewN | apply Ext.drew | refine Ext.trans ?_ (by assumption)))⟩
set_option maxRecDepth 100000 in
set_option maxHeartbeats 4000000 in
theorem concatPod (l m : List DPod) (a b : Option Addr) (ca cb sb : Nat) (w : World) (hl : RdSl w.heap.size w 4 32 (eCells encPod) a l) (hm : RdSl w.heap.size w 4 32 (eCells encPod) b m) (hll : l.length ≤ 100) (hml : m.length ≤ 100) (h1 : ∀ u ∈ l.flatMap encPod, u.oneCell' = true) (h2 : ∀ u ∈ m.flatMap encPod, u.oneCell' = true)
    (s0 : w.cell? ⟨sb, 0, none⟩ = some (.slice a l.length ca)) (s1 : w.cell? ⟨sb, 1, none⟩ = some (.slice b m.length cb)) :
    Calls Tryz.prog 45 #[.slice (some ⟨sb, 0, none⟩) 2 2] w fun e w' => ∃ v, e = .returned v ∧ w'.ownsRow w.heap.size 54 4 v (l ++ m).length ((l ++ m).flatMap encPod) ∧ Below w.heap.size w w' := by
  obtain ⟨i0, hi, iz0, iz1, iz2⟩ := info_parts info_pod
  have HL := hid hl
  have HM := hid hm
  have H1 := hid h1
  have H2 := hid h2
  clear hl hm h1 h2
  have zl : ¬ ((l.length : Int) < 0) := by omega
  have zlm : ¬ ((l.length : Int) + (m.length : Int) < 0) := by omega
  go_enter Tryz.func45, Tryz.ntmps45
  go_wp2_with fail
  go_loopw [3, 11] (fun sz i wr => CatAt w l.length m.length sz i wr) (fun _ i _ => 2 - (intOf i).toNat)
  case atStart => exact ⟨rfl, .inl ⟨rfl, rfl⟩⟩
  case round =>
    obtain ⟨rfl, ⟨rfl, rfl⟩ | ⟨rfl, rfl⟩ | ⟨rfl, rfl⟩⟩ := hrel
    · go_wp2
      exact ⟨⟨rfl, .inr (.inl ⟨by go_num, by go_num⟩)⟩, by simp [intOf]⟩
    · go_wp2
      exact ⟨⟨rfl, .inr (.inr ⟨by go_num, by go_num⟩)⟩, by simp [intOf]⟩
    · obtain ⟨wk, hwk⟩ : ∃ wk, wk = wr := ⟨_, rfl⟩
      subst hwk
      have hG := growPod (l.length + m.length) wk (by omega)
      rw [Int.natCast_add] at hG
      have HG := hid hG
      clear hG
      go_wp2_with (go_at_call 71; refine HG.out.mono ?_; rintro e w1 ⟨v, rfl, ho, hb1⟩; have HO := hid ho; have HB := hid hb1; clear ho hb1)
      go_loopw [6, 27] (fun v i wx => CatOwn wk 54 4 encPod l m v i wx) (fun _ i _ => 2 - (intOf i).toNat)
      case atStart => exact ⟨HB.out, .inl ⟨rfl, HO.out⟩⟩
      case round =>
        obtain ⟨hbx, ⟨rfl, hox⟩ | ⟨rfl, hox⟩ | ⟨rfl, hox⟩⟩ := hrel
        · have HOX := hid hox
          have HBX := hid hbx
          have x0 := cell_to s0 hbx
          clear hox hbx
          go_wp2_with (at_builtin; go_must (refine wpList_append_list _ rfl _ _ 25 rfl wk.heap.size 54 i0 _ 4 32 Tryz.underlying25 hi iz0 iz1 iz2 rfl (by decide) _ 0 [] rfl HOX.out a _ ca (l.flatMap encPod) rfl (oflat_len (k := 4) (fun _ => rfl) _) (news_of (k := 4) (fun _ => rfl) (by decide) (cells_to HL.out HBX.out HBX.out.size) (fun _ _ _ h => h)) H1.out (by unfold maxLen; omega) (by omega) HBX.out.size ?_); intro v' w3 hown' hg3)
          refine ⟨⟨own_below HBX.out HBX.out.size HOX.out hg3, .inr (.inl ⟨by go_num, ?_⟩)⟩, by simp [intOf]⟩
          simpa using hown'
        · have HOX := hid hox
          have HBX := hid hbx
          have x1 := cell_to s1 hbx
          clear hox hbx
          go_wp2_with (at_builtin; go_must (refine wpList_append_list _ rfl _ _ 25 rfl wk.heap.size 54 i0 _ 4 32 Tryz.underlying25 hi iz0 iz1 iz2 rfl (by decide) _ l.length (l.flatMap encPod) rfl HOX.out b _ cb (m.flatMap encPod) rfl (oflat_len (k := 4) (fun _ => rfl) _) (news_of (k := 4) (fun _ => rfl) (by decide) (cells_to HM.out HBX.out HBX.out.size) (fun _ _ _ h => h)) H2.out (by unfold maxLen; omega) (by omega) HBX.out.size ?_); intro v' w3 hown' hg3)
          refine ⟨⟨own_below HBX.out HBX.out.size HOX.out hg3, .inr (.inr ⟨by go_num, ?_⟩)⟩, by simp [intOf]⟩
          rw [List.length_append, List.flatMap_append]
          exact hown'
        · have HOX := hid hox
          have HBX := hid hbx
          clear hox hbx
          go_wp2
          go_ret
          exact ⟨_, rfl, HOX.out, HBX.out⟩
set_option maxRecDepth 100000 in
set_option maxHeartbeats 2000000 in
theorem growPol (n : Nat) (w : World) (hn : n ≤ 1000) :
    Calls Tryz.prog 72 #[.slice none 0 0, .int .i64 (n : Int)] w fun e w' => ∃ v, e = .returned v ∧ w'.ownsRow w.heap.size 59 6 v 0 [] ∧ Below w.heap.size w w' := by
  obtain ⟨i0, hi, iz0, iz1, iz2⟩ := info_parts info_pol
  have h1 : ¬ ((n : Int) < 0) := by omega
  by_cases h0 : n = 0
  · subst h0
    go_enter Tryz.func72, Tryz.ntmps72
    go_wp2
    go_ret
    exact ⟨_, rfl, World.ownsRow_nil _ _ _ _, Below.refl _ _⟩
  · have h4 : (n : Int) > 0 := by omega
    have hw : wrap64 (n : Int) = n := by unfold wrap64; omega
    have hrz := fun ty => Lib.run_append_nil_zeros (P := Tryz.prog) w 26 3 ty 59 i0 _ .i64 .i64 Tryz.underlying26 Tryz.underlying3 hi iz0 n (by omega) (by rw [iz1]; decide) (by omega) (by rw [iz2]; omega)
    have hGn : n ≤ grownCap w n 0 59 := grownCap_ge w _ _ _
    have hGm : grownCap w n 0 59 ≤ maxLen := grownCap_le_maxLen w n 0 59 (by unfold maxLen; omega)
    obtain ⟨G, hG⟩ : ∃ G, G = grownCap w n 0 59 := ⟨_, rfl⟩
    rw [← hG] at hrz hGn hGm
    have hG63 : G ≤ 9223372036854775807 := by unfold maxLen at hGm; omega
    clear hG
    go_enter Tryz.func72, Tryz.ntmps72
    go_wp2_with (at_builtin; refine Lib.wpList_append_run _ rfl _ _ _ _ rfl _ _ rfl rfl _ _ (hrz _) ?_)
    go_ret
    exact ⟨_, rfl, own_room (g := w.heap.size) (new_heap w _) (Nat.le_refl _) hGm (by simp [Builtin.zeroCells]; omega), (by repeat (first | exact Below.refl _ _ | assumption | apply Ext.alloc | apply Ext.drewN | apply Ext.drew | refine Ext.trans ?_ (by assumption)))⟩
set_option maxRecDepth 100000 in
set_option maxHeartbeats 4000000 in
theorem concatPol (l m : List RPol) (a b : Option Addr) (ca cb sb : Nat) (w : World) (hl : RdSl w.heap.size w 6 80 (eCells encPol) a l) (hm : RdSl w.heap.size w 6 80 (eCells encPol) b m) (hll : l.length ≤ 100) (hml : m.length ≤ 100) (h1 : ∀ u ∈ l.flatMap encPol, u.oneCell' = true) (h2 : ∀ u ∈ m.flatMap encPol, u.oneCell' = true)
    (s0 : w.cell? ⟨sb, 0, none⟩ = some (.slice a l.length ca)) (s1 : w.cell? ⟨sb, 1, none⟩ = some (.slice b m.length cb)) :
    Calls Tryz.prog 47 #[.slice (some ⟨sb, 0, none⟩) 2 2] w fun e w' => ∃ v, e = .returned v ∧ w'.ownsRow w.heap.size 59 6 v (l ++ m).length ((l ++ m).flatMap encPol) ∧ Below w.heap.size w w' := by
  obtain ⟨i0, hi, iz0, iz1, iz2⟩ := info_parts info_pol
  have HL := hid hl
  have HM := hid hm
  have H1 := hid h1
  have H2 := hid h2
  clear hl hm h1 h2
  have zl : ¬ ((l.length : Int) < 0) := by omega
  have zlm : ¬ ((l.length : Int) + (m.length : Int) < 0) := by omega
  go_enter Tryz.func47, Tryz.ntmps47
  go_wp2_with fail
  go_loopw [3, 11] (fun sz i wr => CatAt w l.length m.length sz i wr) (fun _ i _ => 2 - (intOf i).toNat)
  case atStart => exact ⟨rfl, .inl ⟨rfl, rfl⟩⟩
  case round =>
    obtain ⟨rfl, ⟨rfl, rfl⟩ | ⟨rfl, rfl⟩ | ⟨rfl, rfl⟩⟩ := hrel
    · go_wp2
      exact ⟨⟨rfl, .inr (.inl ⟨by go_num, by go_num⟩)⟩, by simp [intOf]⟩
    · go_wp2
      exact ⟨⟨rfl, .inr (.inr ⟨by go_num, by go_num⟩)⟩, by simp [intOf]⟩
    · obtain ⟨wk, hwk⟩ : ∃ wk, wk = wr := ⟨_, rfl⟩
      subst hwk
      have hG := growPol (l.length + m.length) wk (by omega)
      rw [Int.natCast_add] at hG
      have HG := hid hG
      clear hG
      go_wp2_with (go_at_call 72; refine HG.out.mono ?_; rintro e w1 ⟨v, rfl, ho, hb1⟩; have HO := hid ho; have HB := hid hb1; clear ho hb1)
      go_loopw [6, 27] (fun v i wx => CatOwn wk 59 6 encPol l m v i wx) (fun _ i _ => 2 - (intOf i).toNat)
      case atStart => exact ⟨HB.out, .inl ⟨rfl, HO.out⟩⟩
      case round =>
        obtain ⟨hbx, ⟨rfl, hox⟩ | ⟨rfl, hox⟩ | ⟨rfl, hox⟩⟩ := hrel
        · have HOX := hid hox
          have HBX := hid hbx
          have x0 := cell_to s0 hbx
          clear hox hbx
          go_wp2_with (at_builtin; go_must (refine wpList_append_list _ rfl _ _ 26 rfl wk.heap.size 59 i0 _ 6 80 Tryz.underlying26 hi iz0 iz1 iz2 rfl (by decide) _ 0 [] rfl HOX.out a _ ca (l.flatMap encPol) rfl (oflat_len (k := 6) (fun _ => rfl) _) (news_of (k := 6) (fun _ => rfl) (by decide) (cells_to HL.out HBX.out HBX.out.size) (fun _ _ _ h => h)) H1.out (by unfold maxLen; omega) (by omega) HBX.out.size ?_); intro v' w3 hown' hg3)
          refine ⟨⟨own_below HBX.out HBX.out.size HOX.out hg3, .inr (.inl ⟨by go_num, ?_⟩)⟩, by simp [intOf]⟩
          simpa using hown'
        · have HOX := hid hox
          have HBX := hid hbx
          have x1 := cell_to s1 hbx
          clear hox hbx
          go_wp2_with (at_builtin; go_must (refine wpList_append_list _ rfl _ _ 26 rfl wk.heap.size 59 i0 _ 6 80 Tryz.underlying26 hi iz0 iz1 iz2 rfl (by decide) _ l.length (l.flatMap encPol) rfl HOX.out b _ cb (m.flatMap encPol) rfl (oflat_len (k := 6) (fun _ => rfl) _) (news_of (k := 6) (fun _ => rfl) (by decide) (cells_to HM.out HBX.out HBX.out.size) (fun _ _ _ h => h)) H2.out (by unfold maxLen; omega) (by omega) HBX.out.size ?_); intro v' w3 hown' hg3)
          refine ⟨⟨own_below HBX.out HBX.out.size HOX.out hg3, .inr (.inr ⟨by go_num, ?_⟩)⟩, by simp [intOf]⟩
          rw [List.length_append, List.flatMap_append]
          exact hown'
        · have HOX := hid hox
          have HBX := hid hbx
          clear hox hbx
          go_wp2
          go_ret
          exact ⟨_, rfl, HOX.out, HBX.out⟩
end Go.Proofs.YtmkjlhplgcifiaaGreat
namespace Go.Proofs.YtmkjlhplgcifiaaGreat
open Go.ChangeShapes Go.WideShapes Go.ChangeAt Go.RowKit
attribute [local simp] World.cell?_grow
attribute [local go_sem] World.cell?_grow
attribute [local simp] World.cell?_alloc_there
attribute [local go_sem] World.cell?_alloc_there
attribute [local go_sem] eqg_blk std_blk eqg_pod std_pod eqg_sel std_sel eqg_prt std_prt
attribute [local go_sem ↓] eql_blk eql_sel neq_sel eql_prt eql_pod
attribute [local go_sem ↓] met_in1 met_in2 met_re1 met_re2
attribute [local go_sem ↓] met_has1 met_has2
attribute [local go_sem ↓] met_bl1 met_bl2
attribute [local go_sem] eqg_row std_row
attribute [local go_sem ↓] neq_row
set_option linter.unusedVariables false
set_option linter.unusedSimpArgs false
theorem compile_ok (c : DClu) (pa qa : Option Addr) (pc qc : Nat) (w : World) (hp : rdPods w.heap.size w pa c.pods) (hq : rdPols w.heap.size w qa c.pols) (hpc : c.pods.length ≤ pc) (h : (right c).1 = 0) :
    Calls Tryz.prog 16 #[.agg #[.slice pa c.pods.length pc, .slice qa c.pols.length qc]] w fun e w' => (∃ tb, e = .returned (.tuple #[.pointer (some ⟨tb, 0, none⟩), .int .i64 0, .int .i64 0]) ∧ w.heap.size ≤ tb ∧ ∃ u0 u1 u2, w'.heap[tb]? = some (.cells #[u0, u1, u2] 94 (0, 0)) ∧ TabC w'.heap.size (hide w' (low (tb + 1))) u0 u1 u2 c) ∧ Below w.heap.size w w' := by
  have HP := hid hp
  have HQ := hid hq
  have HE := hid h
  clear hp hq h
  go_enter Tryz.func16, Tryz.ntmps16
  go_wp2_with (go_at_call 34; go_must (refine (become_ok c (w.heap.size + 1) (.slice none 0 0) (.slice none 0 0) (.map none) pa qa pc qc ((w.alloc (.cells #[.slice pa c.pods.length pc, .slice qa c.pols.length qc] 28)).alloc (.cells #[.slice none 0 0, .slice none 0 0, .map none] 94)) (by have := new_heap (w.alloc (.cells #[.slice pa c.pods.length pc, .slice qa c.pols.length qc] 28)) (.cells #[.slice none 0 0, .slice none 0 0, .map none] 94); simpa only [World.size_alloc] using this) (rdPods.to HP.out (by repeat (first | exact Below.refl _ _ | assumption | apply Ext.alloc | apply Ext.drewN | apply Ext.drew | refine Ext.trans ?_ (by assumption)))) (rdPols.to HQ.out (by repeat (first | exact Below.refl _ _ | assumption | apply Ext.alloc | apply Ext.drewN | apply Ext.drew | refine Ext.trans ?_ (by assumption)))) hpc HE.out).mono ?_); rintro e w1 ⟨rfl, ⟨u0, u1, u2, hu, hT⟩, hg⟩; have HU := hid hu; have HT := hid hT; have HG := hid hg; clear hu hT hg)
  go_ret3
  have hT := HT.out
  simp only [World.size_alloc] at hT
  refine ⟨⟨w.heap.size + 1, rfl, by omega, u0, u1, u2, HU.out, hT⟩, ?_⟩
  exact (show Below w.heap.size w ((w.alloc (.cells #[.slice pa c.pods.length pc, .slice qa c.pols.length qc] 28)).alloc (.cells #[.slice none 0 0, .slice none 0 0, .map none] 94)) from (by repeat (first | exact Below.refl _ _ | assumption | apply Ext.alloc | apply Ext.drewN | apply Ext.drew | refine Ext.trans ?_ (by assumption)))).trans (gb_low HG.out (by omega) (by simp only [World.size_alloc]; omega))
end Go.Proofs.YtmkjlhplgcifiaaGreat
namespace Go.Proofs.YtmkjlhplgcifiaaGreat
open Go.ChangeShapes Go.WideShapes Go.ChangeAt Go.RowKit
attribute [local simp] World.cell?_grow
attribute [local go_sem] World.cell?_grow
attribute [local simp] World.cell?_alloc_there
attribute [local go_sem] World.cell?_alloc_there
attribute [local go_sem] eqg_blk std_blk eqg_pod std_pod eqg_sel std_sel eqg_prt std_prt
attribute [local go_sem ↓] eql_blk eql_sel neq_sel eql_prt eql_pod
attribute [local go_sem ↓] met_in1 met_in2 met_re1 met_re2
attribute [local go_sem ↓] met_has1 met_has2
attribute [local go_sem ↓] met_bl1 met_bl2
attribute [local go_sem] eqg_row std_row
attribute [local go_sem ↓] neq_row
set_option linter.unusedVariables false
set_option linter.unusedSimpArgs false
theorem pods_cells {B : Nat} {w : World} {a : Option Addr} {l : List DPod} (h : rdPods B w a l) : RdSl B w 4 32 (eCells encPod) a l :=
  ⟨h.1, fun i x hx => let ⟨b, off, e, hb, he⟩ := h.2 i x hx; ⟨b, off, e, hb, ePod_cells he⟩⟩
set_option maxRecDepth 100000 in
theorem keepDrop (f : DPod → Bool) (k0 : Value) (a : Option Addr) (cap : Nat) (l : List DPod) (w : World) (hl : rdPods w.heap.size w a l)
    (hK : ∀ (x : DPod) (w1 : World), x ∈ l → Below w.heap.size w w1 → Calls Tryz.prog 70 #[.agg #[.int .i64 x.host, .int .i64 x.ip, .int .i64 x.space, .int .i64 x.labels], k0] w1 fun e w2 => e = .returned (.bool (f x)) ∧ Below w1.heap.size w1 w2) :
    Calls Tryz.prog 69 #[.slice a l.length cap, .func (.func 70) #[] #[k0]] w fun e w' => (∃ v, e = .returned v ∧ w'.ownsRow w.heap.size 54 4 v (l.filter f).length ((l.filter f).flatMap encPod)) ∧ Below w.heap.size w w' := by
  have HK := hid hK
  obtain ⟨hlen, hl⟩ := hl
  have HL := hid hl
  clear hl hK
  obtain ⟨i0, hi, iz0, iz1, iz2⟩ := info_parts info_pod
  go_enter Tryz.func69, Tryz.ntmps69
  go_wp2
  go_loopw [5, 10] (fun kv i wr => ∃ k : Nat, k ≤ l.length ∧ i = .int .i64 k ∧ wr.ownsRow w.heap.size 54 4 kv ((l.take k).filter f).length (((l.take k).filter f).flatMap encPod) ∧ Below w.heap.size w wr) (fun _ i _ => l.length - (intOf i).toNat)
  case atStart => exact ⟨0, Nat.zero_le _, rfl, World.ownsRow_nil _ _ _ _, Below.refl _ _⟩
  case round =>
    obtain ⟨k, hk, rfl, hown, hbw⟩ := hrel
    have HO := hid hown
    clear hown
    have hfl := filter_le l f k
    by_cases hlt : k < l.length
    · obtain ⟨hc, hf⟩ := bcell hbw
      obtain ⟨x, hxk⟩ : ∃ x, l[k]? = some x := ⟨l[k], by simp [hlt]⟩
      have HX := hid hxk
      clear hxk
      obtain ⟨b, off, rfl, hb, c0, c1, c2, c3⟩ := HL.out k x HX.out
      cases hx : f x
      · go_wp2_with (go_at_call 70; refine (HK.out x _ (List.mem_of_getElem? HX.out) (by repeat (first | exact Below.refl _ _ | assumption | apply Ext.alloc | apply Ext.drewN | apply Ext.drew | refine Ext.trans ?_ (by assumption)))).mono ?_; rintro e w1 ⟨rfl, hb1⟩; obtain ⟨hc1, hf1⟩ := bcell hb1; have hz1 := hb_lt hb1)
        exact ⟨⟨k + 1, by omega, by go_num, by rw [take_filter' HX.out hx]; exact own_to (HO.out.alloc _) hb1, (by repeat (first | exact Below.refl _ _ | assumption | apply Ext.alloc | apply Ext.drewN | apply Ext.drew | refine Ext.trans ?_ (by assumption)))⟩, by simp [intOf]; omega⟩
      · go_wp2_with (first
          | (go_at_call 70; refine (HK.out x _ (List.mem_of_getElem? HX.out) (by repeat (first | exact Below.refl _ _ | assumption | apply Ext.alloc | apply Ext.drewN | apply Ext.drew | refine Ext.trans ?_ (by assumption)))).mono ?_; rintro e w1 ⟨rfl, hb1⟩; obtain ⟨hc1, hf1⟩ := bcell hb1; have hz1 := hb_lt hb1; have HO1 := hid (own_to (HO.out.alloc (.cells #[.int .i64 x.host, .int .i64 x.ip, .int .i64 x.space, .int .i64 x.labels] 54)) hb1); have hW1 : Below w.heap.size w w1 := (by repeat (first | exact Below.refl _ _ | assumption | apply Ext.alloc | apply Ext.drewN | apply Ext.drew | refine Ext.trans ?_ (by assumption))))
          | (at_builtin; go_loud (refine wpList_append_own _ rfl _ _ 25 rfl w.heap.size 54 i0 _ 4 32 Tryz.underlying25 hi iz0 iz1 iz2 rfl (by decide) _ _ _ rfl (HO1.out.alloc _) ⟨w1.heap.size, 0, none⟩ 1 1 [.int .i64 x.host, .int .i64 x.ip, .int .i64 x.space, .int .i64 x.labels] rfl rfl (cell_new_list _ [.int .i64 x.host, .int .i64 x.ip, .int .i64 x.space, .int .i64 x.labels] _) (fun u hu => by simp at hu; rcases hu with rfl | rfl | rfl | rfl <;> rfl) (by unfold maxLen; omega) (by omega) (by have := hW1.size; simp; omega) ?_); intro v' w3 hown' hg3 hn3))
        exact ⟨⟨k + 1, by omega, by go_num, by rw [take_filter HX.out hx]; simpa [encPod] using hown', own_below (hW1.alloc hW1.size _) (by have := hW1.size; simp; omega) (HO1.out.alloc _) hg3⟩, by simp [intOf]; omega⟩
    · go_wp2
      have he : l.take k = l := List.take_of_length_le (by omega)
      have ho := HO.out
      rw [he] at ho hfl
      go_ret
      exact ⟨⟨_, rfl, ho⟩, hbw⟩
/-- what a change leaves: the tables of the cluster c', or everything as it was -/
def Chg (tb : Nat) (c' : DClu) (w w' : World) : Prop :=
  ((right c').1 = 0 → (∃ u0 u1 u2, w'.heap[tb]? = some (.cells #[u0, u1, u2] 94 (0, 0)) ∧ TabC w'.heap.size (hide w' (low w.heap.size)) u0 u1 u2 c') ∧ w.grownBy w' (some tb)) ∧ (¬ (right c').1 = 0 → Below w.heap.size w w')
theorem Chg.pre {tb : Nat} {c' : DClu} {w W w' : World} (hb : Below w.heap.size w W) (h : Chg tb c' W w') : Chg tb c' w w' := by
  refine ⟨fun hr => ?_, fun hr => Ext.trans hb (h.2 hr)⟩
  obtain ⟨⟨u0, u1, u2, h1, h2⟩, h3⟩ := h.1 hr
  exact ⟨⟨u0, u1, u2, h1, h2.sub (BSub.hide fun b _ hG => ⟨low_false.2 (Nat.le_trans hb.size (low_false.1 hG)), rfl⟩) (Nat.le_refl _)⟩, ⟨h3.os.trans hb.os, h3.tape.trans hb.tape, h3.output.trans hb.output, Nat.le_trans hb.size h3.size, fun k hk hne => (h3.block k (Nat.lt_of_lt_of_le hk hb.size) hne).trans (hb.block k hk)⟩⟩
set_option maxRecDepth 100000 in
set_option maxHeartbeats 2000000 in
theorem follow_any (c : DClu) (tb : Nat) (x0 x1 x2 : Value) (pa qa : Option Addr) (pc qc : Nat) (w : World) (ht : w.heap[tb]? = some (.cells #[x0, x1, x2] 94 (0, 0))) (hp : rdPods w.heap.size w pa c.pods) (hq : rdPols w.heap.size w qa c.pols) (hpc : c.pods.length ≤ pc) :
    Calls Tryz.prog 46 #[.pointer (some ⟨tb, 0, none⟩), .agg #[.slice pa c.pods.length pc, .slice qa c.pols.length qc]] w fun e w' => e = .returned (.int .i64 (right c).1) ∧ Chg tb c w w' := by
  have HC := hid (show ∀ W, Below w.heap.size w W → Calls Tryz.prog 34 #[.pointer (some ⟨tb, 0, none⟩), .agg #[.slice pa c.pods.length pc, .slice qa c.pols.length qc]] W fun e w' => (∃ z, e = .returned (.tuple #[.int .i64 (right c).1, .int .i64 z])) ∧ Chg tb c w w' from fun W hb => by
    by_cases hr : (right c).1 = 0
    · refine (become_ok c tb x0 x1 x2 pa qa pc qc W ((hb.block tb (Array.getElem?_eq_some_iff.1 ht).1).trans ht) (rdPods.to hp hb) (rdPols.to hq hb) hpc hr).mono fun e w' ⟨he, h1, h2⟩ => ⟨⟨0, by rw [hr]; exact he⟩, Chg.pre hb ⟨fun _ => ⟨h1, h2⟩, fun h => absurd hr h⟩⟩
    · exact (become_err c tb pa qa pc qc W (rdPods.to hp hb) (rdPols.to hq hb) hpc hr).mono fun e w' ⟨he, h1⟩ => ⟨⟨_, he⟩, Chg.pre hb ⟨fun h => absurd h hr, fun _ => h1⟩⟩)
  clear ht hp hq
  go_enter Tryz.func46, Tryz.ntmps46
  go_wp2_with fail
  refine (HC.out _ (by repeat (first | exact Below.refl _ _ | assumption | apply Ext.alloc | apply Ext.drewN | apply Ext.drew | refine Ext.trans ?_ (by assumption)))).mono ?_
  rintro e w1 ⟨⟨z, rfl⟩, hc⟩
  have H := hid hc
  clear hc
  go_wp2
  go_ret
  exact ⟨rfl, H.out⟩
set_option maxRecDepth 100000 in
set_option maxHeartbeats 4000000 in
theorem addPod_any (p : DPod) (tb : Nat) (u2 : Value) (c : DClu) (pa qa : Option Addr) (pc qc : Nat) (w : World) (ht : w.heap[tb]? = some (.cells #[.slice pa c.pods.length pc, .slice qa c.pols.length qc, u2] 94 (0, 0))) (hp : rdPods w.heap.size w pa c.pods) (hq : rdPols w.heap.size w qa c.pols) (hr : (right c).1 = 0) :
    Calls Tryz.prog 27 #[.pointer (some ⟨tb, 0, none⟩), .agg #[.int .i64 p.host, .int .i64 p.ip, .int .i64 p.space, .int .i64 p.labels]] w fun e w' => e = .returned (.int .i64 (right ⟨c.pods ++ [p], c.pols⟩).1) ∧ Chg tb ⟨c.pods ++ [p], c.pols⟩ w w' := by
  obtain ⟨l1, l2⟩ := right_lens hr
  have HP := hid hp
  have HQ := hid hq
  have HT := hid ht
  have htl : tb < w.heap.size := (Array.getElem?_eq_some_iff.1 ht).1
  have t0 : w.cell? ⟨tb, 0, none⟩ = some (.slice pa c.pods.length pc) := (blk_cell ht 0).trans rfl
  have t1 : w.cell? ⟨tb, 1, none⟩ = some (.slice qa c.pols.length qc) := (blk_cell ht 1).trans rfl
  clear hp hq ht hr
  obtain ⟨D, hD⟩ : ∃ D, D = c.pods ++ [p] := ⟨_, rfl⟩
  rw [← hD]
  have HD := hid hD
  clear hD
  go_enter Tryz.func27, Tryz.ntmps27
  go_wp2_with fail
  generalize hW : ((((w.alloc (Obj.cells #[.int .i64 p.host, .int .i64 p.ip, .int .i64 p.space, .int .i64 p.labels] 54)).alloc (Obj.cells #[.slice pa c.pods.length pc, .slice qa c.pols.length qc] 28)).alloc (Obj.cells #[.int .i64 p.host, .int .i64 p.ip, .int .i64 p.space, .int .i64 p.labels] 54)).alloc (Obj.cells #[.slice pa c.pods.length pc, .slice (some ⟨w.heap.size + 1 + 1, 0, none⟩) 1 1] 25)) = W
  have HSW := hid (show W.heap.size = w.heap.size + 4 by rw [← hW]; simp)
  have HBW := hid (show Below w.heap.size w W from by rw [← hW]; exact (by repeat (first | exact Below.refl _ _ | assumption | apply Ext.alloc | apply Ext.drewN | apply Ext.drew | refine Ext.trans ?_ (by assumption))))
  have KB := hid (show W.heap[w.heap.size + 1]? = some (.cells #[.slice pa c.pods.length pc, .slice qa c.pols.length qc] 28 (0, 0)) from by
    rw [← hW]
    have := new_heap (w.alloc (Obj.cells #[.int .i64 p.host, .int .i64 p.ip, .int .i64 p.space, .int .i64 p.labels] 54)) (.cells #[.slice pa c.pods.length pc, .slice qa c.pols.length qc] 28)
    simp only [World.size_alloc] at this
    exact (Below.heap_alloc _ _ _ (by simp only [World.size_alloc]; omega)).trans ((Below.heap_alloc _ _ _ (by simp only [World.size_alloc]; omega)).trans this))
  have s0 : W.cell? ⟨w.heap.size + 1 + 1 + 1, 0, none⟩ = some (.slice pa c.pods.length pc) := by rw [← hW]; simp [go_sem]
  have s1 : W.cell? ⟨w.heap.size + 1 + 1 + 1, 1, none⟩ = some (.slice (some ⟨w.heap.size + 1 + 1, 0, none⟩) 1 1) := by rw [← hW]; simp [go_sem]
  have p0 : W.cell? ⟨w.heap.size + 1 + 1, 0, none⟩ = some (.int .i64 p.host) := by rw [← hW]; simp [go_sem]
  have p1 : W.cell? ⟨w.heap.size + 1 + 1, 1, none⟩ = some (.int .i64 p.ip) := by rw [← hW]; simp [go_sem]
  have p2 : W.cell? ⟨w.heap.size + 1 + 1, 2, none⟩ = some (.int .i64 p.space) := by rw [← hW]; simp [go_sem]
  have p3 : W.cell? ⟨w.heap.size + 1 + 1, 3, none⟩ = some (.int .i64 p.labels) := by rw [← hW]; simp [go_sem]
  clear hW t0 t1
  refine (concatPod c.pods [p] pa (some ⟨w.heap.size + 1 + 1, 0, none⟩) pc 1 (w.heap.size + 1 + 1 + 1) W (pods_cells (rdPods.to HP.out HBW.out)) (pods_cells (rd_one (by decide) (by have := HSW.out; omega) ⟨p0, p1, p2, p3⟩)) (by omega) (by simp) (encPods_one _) (encPods_one _) s0 s1).mono ?_
  rw [← HD.out]
  rintro e w1 ⟨v, rfl, ho, hb1⟩
  obtain ⟨va, vc, hv, hvc, _⟩ := own_slice ho
  subst hv
  have HO := hid ho
  have HB1 := hid hb1
  have kb1 := (hb1.block (w.heap.size + 1) (by have := HSW.out; omega)).trans KB.out
  have m0 := blk_cell kb1
  have mf := blk_frozen kb1
  clear ho hb1 kb1 s0 s1 p0 p1 p2 p3
  go_wp2_with fail
  generalize hX : w1.setCell ⟨w.heap.size + 1, 0, none⟩ (.slice va D.length vc) = X
  have hoX : X.ownsRow W.heap.size 54 4 (.slice va D.length vc) D.length (D.flatMap encPod) := by rw [← hX]; exact row_set HO.out _ _ (by show w.heap.size + 1 < _; have := HSW.out; omega)
  have hbX : Below w.heap.size w X := by rw [← hX]; exact (Ext.trans HBW.out HB1.out).setCell (by show w.heap.size ≤ w.heap.size + 1; omega) _
  clear hX m0 mf
  obtain ⟨va', vc', hv', _, hrX⟩ := own_pods hoX (by have := congrArg List.length HD.out; simp at this; omega)
  injection hv' with e1 e2 e3
  subst e1
  refine (follow_any ⟨D, c.pols⟩ tb _ _ _ va qa vc qc X ((hbX.block tb htl).trans HT.out) hrX (rdPols.to HQ.out hbX) hvc).mono ?_
  rintro e w2 ⟨rfl, hc⟩
  have HC := hid (Chg.pre hbX hc)
  clear hc hoX hbX hrX
  go_wp2
  go_ret
  exact ⟨rfl, HC.out⟩
theorem dropClo (p : DPod) (ip : Int) (kb : Nat) (w : World) (h : w.cell? ⟨kb, 0, none⟩ = some (.int .i64 ip)) :
    Calls Tryz.prog 70 #[.agg #[.int .i64 p.host, .int .i64 p.ip, .int .i64 p.space, .int .i64 p.labels], .pointer (some ⟨kb, 0, none⟩)] w fun e w' => e = .returned (.bool (decide (p.ip ≠ ip))) ∧ Below w.heap.size w w' := by
  go_enter Tryz.func70, Tryz.ntmps70
  go_wp2
  go_ret
  exact ⟨by by_cases e : p.ip = ip <;> simp [e], (by repeat (first | exact Below.refl _ _ | assumption | apply Ext.alloc | apply Ext.drewN | apply Ext.drew | refine Ext.trans ?_ (by assumption)))⟩
set_option maxRecDepth 100000 in
set_option maxHeartbeats 4000000 in
theorem dropPod_some (ip : Int) (tb : Nat) (u2 : Value) (c : DClu) (pa qa : Option Addr) (pc qc : Nat) (w : World) (ht : w.heap[tb]? = some (.cells #[.slice pa c.pods.length pc, .slice qa c.pols.length qc, u2] 94 (0, 0))) (hp : rdPods w.heap.size w pa c.pods) (hq : rdPols w.heap.size w qa c.pols) (hr : (right c).1 = 0) (hn : (podAt c.pods ip).isSome = true) :
    Calls Tryz.prog 43 #[.pointer (some ⟨tb, 0, none⟩), .int .i64 ip] w fun e w' => e = .returned (.int .i64 0) ∧ Chg tb ⟨c.pods.filter fun q => decide (q.ip ≠ ip), c.pols⟩ w w' := by
  have HTK := hid (show ∀ W, Below w.heap.size w W → Calls Tryz.prog 68 #[.slice pa c.pods.length pc, .int .i64 ip] W fun e w' => e = .returned (.bool true) ∧ Below W.heap.size W w' from fun W hb => by have := taken_any pa pc c.pods ip W (rdPods.to hp hb); rw [hn] at this; exact this)
  have HRR := hid (right_dropPod hr fun q => decide (q.ip ≠ ip))
  obtain ⟨l1, l2⟩ := right_lens hr
  have HP := hid hp
  have HQ := hid hq
  have HT := hid ht
  have htl : tb < w.heap.size := (Array.getElem?_eq_some_iff.1 ht).1
  have t0 : w.cell? ⟨tb, 0, none⟩ = some (.slice pa c.pods.length pc) := (blk_cell ht 0).trans rfl
  have t1 : w.cell? ⟨tb, 1, none⟩ = some (.slice qa c.pols.length qc) := (blk_cell ht 1).trans rfl
  clear hp hq ht hr
  obtain ⟨D, hD⟩ : ∃ D, D = c.pods.filter fun q => decide (q.ip ≠ ip) := ⟨_, rfl⟩
  rw [← hD] at HRR ⊢
  have hDl : D.length ≤ 8 := by rw [hD]; exact Nat.le_trans (List.length_filter_le _ _) l1
  have HD := hid hD
  clear hD
  go_enter Tryz.func43, Tryz.ntmps43
  go_wp2_with fail
  generalize hW : ((w.alloc (.cells #[.int .i64 ip] 3)).alloc (.cells #[.slice pa c.pods.length pc, .slice qa c.pols.length qc] 28)) = W
  have HSW := hid (show W.heap.size = w.heap.size + 2 by rw [← hW]; simp)
  have HBW := hid (show Below w.heap.size w W from by rw [← hW]; exact (by repeat (first | exact Below.refl _ _ | assumption | apply Ext.alloc | apply Ext.drewN | apply Ext.drew | refine Ext.trans ?_ (by assumption))))
  have KB := hid (show W.heap[w.heap.size + 1]? = some (.cells #[.slice pa c.pods.length pc, .slice qa c.pols.length qc] 28 (0, 0)) from by
    rw [← hW]
    have := new_heap (w.alloc (Obj.cells #[.int .i64 ip] 3)) (.cells #[.slice pa c.pods.length pc, .slice qa c.pols.length qc] 28)
    simp only [World.size_alloc] at this
    exact this)
  have KI := hid (show W.cell? ⟨w.heap.size, 0, none⟩ = some (.int .i64 ip) by rw [← hW]; simp [go_sem])
  clear hW t0 t1
  refine (HTK.out W HBW.out).mono ?_
  rintro e w1 ⟨rfl, hb1⟩
  have HB1 := hid hb1
  have hs1 := hb1.size
  have KB1 := hid ((hb1.block (w.heap.size + 1) (by have := HSW.out; omega)).trans KB.out)
  have KI1 := hid (cell_to KI.out hb1)
  have HBw1 := hid (Ext.trans HBW.out hb1)
  have m0 := blk_cell KB1.out
  clear hb1
  go_wp2_with fail
  refine (keepDrop (fun q => decide (q.ip ≠ ip)) (.pointer (some ⟨w.heap.size, 0, none⟩)) pa pc c.pods w1 (rdPods.to HP.out HBw1.out) (fun x w2 _ hb2 => dropClo x ip w.heap.size w2 (cell_to KI1.out hb2))).mono ?_
  rw [← HD.out]
  rintro e w2 ⟨⟨v, rfl, ho⟩, hb2⟩
  obtain ⟨va, vc, hv, hvc, _⟩ := own_slice ho
  subst hv
  have HO := hid ho
  have HB2 := hid (Ext.trans HBw1.out hb2)
  have kb2 := (hb2.block (w.heap.size + 1) (by have := HSW.out; omega)).trans KB1.out
  have n0 := blk_cell kb2
  have nf := blk_frozen kb2
  clear ho hb2 kb2 m0
  go_wp2_with fail
  generalize hX : w2.setCell ⟨w.heap.size + 1, 0, none⟩ (.slice va D.length vc) = X
  have hoX : X.ownsRow w1.heap.size 54 4 (.slice va D.length vc) D.length (D.flatMap encPod) := by rw [← hX]; exact row_set HO.out _ _ (by show w.heap.size + 1 < _; have := HSW.out; omega)
  have hbX : Below w.heap.size w X := by rw [← hX]; exact HB2.out.setCell (by show w.heap.size ≤ w.heap.size + 1; omega) _
  clear hX n0 nf
  obtain ⟨va', vc', hv', _, hrX⟩ := own_pods hoX (by omega)
  injection hv' with e1 e2 e3
  subst e1
  refine (follow_any ⟨D, c.pols⟩ tb _ _ _ va qa vc qc X ((hbX.block tb htl).trans HT.out) hrX (rdPols.to HQ.out hbX) hvc).mono ?_
  rw [HRR.out]
  rintro e w3 ⟨rfl, hc⟩
  have HC := hid (Chg.pre hbX hc)
  clear hc hoX hbX hrX
  go_wp2
  go_ret
  exact ⟨rfl, HC.out⟩
end Go.Proofs.YtmkjlhplgcifiaaGreat
