/-
  palisade: Rows, Decide, Admits.
  palisade: Admits.
-/
import Derived.Test.YtmkjlhplgcifiaaGreatJ48
namespace Go.Proofs.YtmkjlhplgcifiaaGreat
open Go.ChangeShapes Go.WideShapes Go.ChangeAt Go.RowKit
attribute [local simp] World.cell?_grow
attribute [local go_sem] World.cell?_grow
attribute [local simp] World.cell?_alloc_there
attribute [local go_sem] World.cell?_alloc_there
attribute [local go_sem] eqg_blk std_blk eqg_pod std_pod eqg_sel std_sel eqg_prt std_prt
attribute [local go_sem ↓] eql_blk eql_sel neq_sel eql_prt eql_pod
attribute [local go_sem ↓] met_in1 met_in2 met_re1 met_re2
attribute [local go_sem ↓] met_has1 met_has2
attribute [local go_sem ↓] met_bl1 met_bl2
attribute [local go_sem] eqg_row std_row
attribute [local go_sem ↓] neq_row
set_option linter.unusedVariables false
set_option linter.unusedSimpArgs false
theorem seek_in : ∀ (ps : List (Int × Int)) (vs : List Value) (i : Nat) (h y : Int), vs.length = ps.length → (h, y) ∈ ps → ∃ n v, seek h y ps vs i = some (i + n, v) ∧ ps[n]? = some (h, y) ∧ vs[n]? = some v
  | [], _, _, _, _, _, hm => by simp at hm
  | p :: ps, [], _, _, _, hl, _ => by simp at hl
  | p :: ps, v :: vs, i, h, y, hl, hm => by
    rw [seek]
    by_cases e : h = p.1 ∧ y = p.2
    · exact ⟨0, v, by simp [e], by simp [e], by simp⟩
    · have hm : (h, y) ∈ ps := by
        rcases List.mem_cons.1 hm with h1 | h1
        · exact absurd ⟨congrArg Prod.fst h1, congrArg Prod.snd h1⟩ e
        · exact h1
      obtain ⟨n, u, h1, h2, h3⟩ := seek_in ps vs (i + 1) h y (by simpa using hl) hm
      refine ⟨n + 1, u, ?_, by simpa using h2, by simpa using h3⟩
      rw [if_neg (by simpa using e), h1]
      congr 2
      omega
/-- tables in memory, with their rows -/
def TabsAs (B : Nat) (w : World) (tb : Nat) (c : DClu) (T : Int × Int → List DRow) : Prop :=
  ∃ (r : Nat) (vs : List Value), tb < B ∧ r < B ∧ w.cell? ⟨tb, 2, none⟩ = some (.map (some r)) ∧ MapAt w r vs ∧ vs.length = 8 ∧
    ∀ (i : Nat) (p : Int × Int) (v : Value), plist[i]? = some p → vs[i]? = some v → ∃ (a : Addr) (cc : Nat) (L : List DRow), v = .slice (some a) (T p).length cc ∧ T p = L ++ [lastRow] ∧ TabRows c p.2 p.1 c.pods L ∧ rdRows B w (some a) (T p)
theorem TabsAs.ext {B B' : Nat} {w w' : World} {tb : Nat} {c : DClu} {T : Int × Int → List DRow} (h : TabsAs B w tb c T) (hw : Below B w w') (hB : B ≤ B') : TabsAs B' w' tb c T := by
  obtain ⟨r, vs, h1, h2, h3, h4, h5, h6⟩ := h
  refine ⟨r, vs, by omega, by omega, (hw.cell (p := ⟨tb, 2, none⟩) h1).trans h3, (hw.block r h2).trans h4, h5, fun i p v hp hv => ?_⟩
  obtain ⟨a, cc, L, e1, e2, e3, e4⟩ := h6 i p v hp hv
  exact ⟨a, cc, L, e1, e2, e3, rdRows.ext hw hB e4⟩
theorem TabsAs.to {w w' : World} {tb : Nat} {c : DClu} {T : Int × Int → List DRow} (h : TabsAs w.heap.size w tb c T) (hw : Below w.heap.size w w') : TabsAs w'.heap.size w' tb c T := h.ext hw hw.size
theorem plist_inj : ∀ i j : Fin 8, plist[i.val]? = plist[j.val]? → i = j := by decide
theorem TabsAt.as {B : Nat} {w : World} {tb : Nat} {c : DClu} (h : TabsAt B w tb c) : ∃ T, TabsAs B w tb c T := by
  obtain ⟨r, vs, h1, h2, h3, h4, h5, h6⟩ := h
  have key : ∀ p : Int × Int, ∃ l : List DRow, ∀ (i : Nat) (v : Value), plist[i]? = some p → vs[i]? = some v → ∃ (a : Addr) (cc : Nat) (L : List DRow), v = .slice (some a) l.length cc ∧ l = L ++ [lastRow] ∧ TabRows c p.2 p.1 c.pods L ∧ rdRows B w (some a) l := by
    intro p
    by_cases hp : p ∈ plist
    · obtain ⟨i, hi⟩ := List.mem_iff_getElem?.1 hp
      have hil : i < vs.length := by have := (List.getElem?_eq_some_iff.1 hi).1; rw [h5]; exact this
      obtain ⟨a, cc, n, L, e1, e2, e3, e4⟩ := h6 i p vs[i] hi (List.getElem?_eq_getElem hil)
      refine ⟨L ++ [lastRow], fun j v hj hv => ?_⟩
      have hij : j = i := by
        have x1 := (List.getElem?_eq_some_iff.1 hi).1
        have y1 := (List.getElem?_eq_some_iff.1 hj).1
        exact congrArg Fin.val (plist_inj ⟨j, y1⟩ ⟨i, x1⟩ (hj.trans hi.symm))
      subst hij
      rw [List.getElem?_eq_getElem hil] at hv
      cases hv
      exact ⟨a, cc, L, by rw [e1, e2], rfl, e3, e4⟩
    · exact ⟨[], fun j v hj _ => absurd (List.mem_of_getElem? hj) hp⟩
  exact ⟨fun p => Classical.choose (key p), r, vs, h1, h2, h3, h4, h5, fun i p v hp hv => Classical.choose_spec (key p) i v hp hv⟩
/-- where a table is -/
theorem TabsAs.look {w : World} {tb : Nat} {c : DClu} {T : Int × Int → List DRow} (h : TabsAs w.heap.size w tb c T) (host way : Int) (hm : (host, way) ∈ plist) :
    ∃ (r : Nat) (vs : List Value) (a : Addr) (cc : Nat), w.cell? ⟨tb, 2, none⟩ = some (.map (some r)) ∧ MapAt w r vs ∧ (∃ n, seek host way plist vs 0 = some (n, .slice (some a) (T (host, way)).length cc)) ∧ rdRows w.heap.size w (some a) (T (host, way)) := by
  obtain ⟨r, vs, h1, h2, h3, h4, h5, h6⟩ := h
  obtain ⟨n, v, e1, e2, e3⟩ := seek_in plist vs 0 host way (by rw [h5]; rfl) hm
  obtain ⟨a, cc, L, rfl, hL, hT, hr⟩ := h6 n _ v e2 e3
  exact ⟨r, vs, a, cc, h3, h4, ⟨_, e1⟩, hr⟩
theorem TabsAs.tab {B : Nat} {w : World} {tb : Nat} {c : DClu} {T : Int × Int → List DRow} (h : TabsAs B w tb c T) (host way : Int) (hm : (host, way) ∈ plist) : ∃ L, T (host, way) = L ++ [lastRow] ∧ TabRows c way host c.pods L := by
  obtain ⟨r, vs, h1, h2, h3, h4, h5, h6⟩ := h
  obtain ⟨n, v, e1, e2, e3⟩ := seek_in plist vs 0 host way (by rw [h5]; rfl) hm
  obtain ⟨a, cc, L, rfl, hL, hT, hr⟩ := h6 n _ v e2 e3
  exact ⟨L, hL, hT⟩
end Go.Proofs.YtmkjlhplgcifiaaGreat
namespace Go.Proofs.YtmkjlhplgcifiaaGreat
open Go.ChangeShapes Go.WideShapes Go.ChangeAt Go.RowKit
attribute [local simp] World.cell?_grow
attribute [local go_sem] World.cell?_grow
attribute [local simp] World.cell?_alloc_there
attribute [local go_sem] World.cell?_alloc_there
attribute [local go_sem] eqg_blk std_blk eqg_pod std_pod eqg_sel std_sel eqg_prt std_prt
attribute [local go_sem ↓] eql_blk eql_sel neq_sel eql_prt eql_pod
attribute [local go_sem ↓] met_in1 met_in2 met_re1 met_re2
attribute [local go_sem ↓] met_has1 met_has2
attribute [local go_sem ↓] met_bl1 met_bl2
attribute [local go_sem] eqg_row std_row
attribute [local go_sem ↓] neq_row
set_option linter.unusedVariables false
set_option linter.unusedSimpArgs false
set_option maxHeartbeats 1000000 in
theorem allPl (f : Int × Int → Bool) (k0 k1 : Value) (a : Option Addr) (cap : Nat) (l : List (Int × Int)) (w : World) (hl : rdPls w.heap.size w a l)
    (hK : ∀ (x : Int × Int) (w1 : World), x ∈ l → Below w.heap.size w w1 → Calls Tryz.prog 40 #[.agg #[.int .i64 x.1, .int .i64 x.2], k0, k1] w1 fun e w2 => e = .returned (.bool (f x)) ∧ Below w1.heap.size w1 w2) :
    Calls Tryz.prog 38 #[.slice a l.length cap, .func (.func 40) #[] #[k0, k1]] w fun e w' => e = .returned (.bool (l.all f)) ∧ Below w.heap.size w w' := by
  have HK := hid hK
  obtain ⟨hlen, hl⟩ := hl
  have HL := hid hl
  clear hl hK
  go_enter Tryz.func38, Tryz.ntmps38
  go_wp2
  go_loopw [9] (fun i wr => ∃ k : Nat, k ≤ l.length ∧ i = .int .i64 k ∧ (l.take k).all f = true ∧ Below w.heap.size w wr) (fun i _ => l.length - (intOf i).toNat)
  case atStart => exact ⟨0, Nat.zero_le _, rfl, rfl, Below.refl _ _⟩
  case round =>
    obtain ⟨k, hk, rfl, hall, hbw⟩ := hrel
    have HA := hid hall
    clear hall
    by_cases hlt : k < l.length
    · obtain ⟨hc, hf⟩ := bcell hbw
      obtain ⟨x, hxk⟩ : ∃ x, l[k]? = some x := ⟨l[k], by simp [hlt]⟩
      have HX := hid hxk
      clear hxk
      obtain ⟨b, off, rfl, hb, c0, c1⟩ := HL.out k x HX.out
      cases hx : f x
      · go_wp2_with (go_at_call 40; refine (HK.out x _ (List.mem_of_getElem? HX.out) (by repeat (first | exact Below.refl _ _ | assumption | apply Ext.alloc | apply Ext.drewN | apply Ext.drew | refine Ext.trans ?_ (by assumption)))).mono ?_; rw [hx]; rintro e w1 ⟨rfl, hb1⟩)
        go_ret
        exact ⟨ret_bool (by rw [all_false HX.out hx]), (by repeat (first | exact Below.refl _ _ | assumption | apply Ext.alloc | apply Ext.drewN | apply Ext.drew | refine Ext.trans ?_ (by assumption)))⟩
      · go_wp2_with (go_at_call 40; refine (HK.out x _ (List.mem_of_getElem? HX.out) (by repeat (first | exact Below.refl _ _ | assumption | apply Ext.alloc | apply Ext.drewN | apply Ext.drew | refine Ext.trans ?_ (by assumption)))).mono ?_; rw [hx]; rintro e w1 ⟨rfl, hb1⟩)
        exact ⟨⟨k + 1, by omega, by go_num, take_all HX.out HA.out hx, (by repeat (first | exact Below.refl _ _ | assumption | apply Ext.alloc | apply Ext.drewN | apply Ext.drew | refine Ext.trans ?_ (by assumption)))⟩, by simp [intOf]; omega⟩
    · go_wp2
      go_ret
      have := HA.out
      rw [List.take_of_length_le (by omega)] at this
      exact ⟨ret_bool (by rw [this]), hbw⟩
theorem admClo (c : DClu) (T : Int × Int → List DRow) (tb : Nat) (p : Int × Int) (k : DPkt) (tc kb : Nat) (w : World) (h : TabsAs w.heap.size w tb c T) (hm : p ∈ plist) (hk : pktOk k = true) (hc : cluOk c) (t0 : w.cell? ⟨tc, 0, none⟩ = some (.pointer (some ⟨tb, 0, none⟩)))
    (c0 : w.cell? ⟨kb, 0, none⟩ = some (.int .i64 k.src)) (c1 : w.cell? ⟨kb, 1, none⟩ = some (.int .i64 k.dst)) (c2 : w.cell? ⟨kb, 2, none⟩ = some (.int .i64 k.proto)) (c3 : w.cell? ⟨kb, 3, none⟩ = some (.int .i64 k.port)) :
    Calls Tryz.prog 40 #[.agg #[.int .i64 p.1, .int .i64 p.2], .pointer (some ⟨tc, 0, none⟩), .pointer (some ⟨kb, 0, none⟩)] w fun e w' => e = .returned (.bool (decd c p.1 p.2 k)) ∧ Below w.heap.size w w' := by
  obtain ⟨r, vs, a, cc, m0, hM, ⟨n0, hs⟩, hr⟩ := h.look p.1 p.2 hm
  obtain ⟨L, hL, hT⟩ := h.tab p.1 p.2 hm
  obtain ⟨n, rw', h1, h2, h3⟩ := tab_decides hc hT k hk
  have hok := tab_ok hc hT
  rw [← hL] at h1 h2 hok
  have l0 := cell_lt m0
  have l1 := cell_lt t0
  have l2 := cell_lt c0
  have hlk := fun w1 h1 => look_place1 w1 r vs h1 p.1 p.2
  rw [hs] at hlk
  have hM1 : MapAt (w.alloc (.cells #[.int .i64 p.1, .int .i64 p.2] 99)) r vs := by
    have hr : r < w.heap.size := (Array.getElem?_eq_some_iff.1 hM).1
    exact (Below.heap_alloc _ _ _ hr).trans hM
  have hlk := fun u => hlk _ (show MapAt ((w.alloc (.cells #[.int .i64 p.1, .int .i64 p.2] 99)).grow u) r vs from (World.heap_grow _ u r (Array.getElem?_eq_some_iff.1 hM1).1).trans hM1)
  have hC : Below w.heap.size w (w.alloc (.cells #[.int .i64 p.1, .int .i64 p.2] 99)) := (Below.refl _ w).alloc (Nat.le_refl _) _
  have HR := hid hr
  have H1 := hid h1
  have H2 := hid h2
  have H3 := hid h3
  have HOK := hid hok
  have HK := hid hk
  clear h hM hs hm hM1 hr h1 h2 h3 hok hL hT hk
  generalize T (p.1, p.2) = l at *
  have HD := hid (show ∀ (W : World), rdRows W.heap.size W (some a) l → Calls Tryz.prog 37 #[.slice (some a) l.length cc, .agg #[.int .i64 k.src, .int .i64 k.dst, .int .i64 k.proto, .int .i64 k.port]] W fun e w' => e = .returned (.tuple #[.bool (decd c p.1 p.2 k), .int .i64 n]) ∧ Below W.heap.size W w' from fun W hW => by
    have := decides_any l k n rw' (some a) cc W hW HOK.out HK.out H1.out H2.out
    rw [H3.out] at this
    exact this)
  go_enter Tryz.func40, Tryz.ntmps40
  go_wp2
  refine wp_region_grow (by kernel_rfl) (by kernel_rfl) ?_
  repeat (go_big_quiet_step (first
    | (go_at_call 37; exact Calls.grow_of (HD.out _ (rdRows.to (rdRows.to HR.out hC) (World.below_grow _ _))))))
  refine wpQuiet_nil ?_
  intro w1 hb1
  obtain ⟨hc1, hf1⟩ := bcell hb1
  have hz1 := hb_lt hb1
  go_wp2
  go_ret
  exact ⟨rfl, (by repeat (first | exact Below.refl _ _ | assumption | apply Ext.alloc | apply Ext.drewN | apply Ext.drew | refine Ext.trans ?_ (by assumption)))⟩
theorem decd_may {c : DClu} (hc : cluOk c) (k : DPkt) : (plist.all fun p => decd c p.1 p.2 k) = (may c 1 k k.src k.dst && may c 2 k k.dst k.src) := by
  have h1 := decd_all hc k 1
  have h2 := decd_all hc k 2
  show _ = (may c 1 k (nearOf 1 k) (farOf 1 k) && may c 2 k (nearOf 2 k) (farOf 2 k))
  rw [← h1, ← h2]
  simp only [plist, List.all_cons, List.all_nil, Bool.and_true]
  cases decd c 0 1 k <;> cases decd c 1 1 k <;> cases decd c 2 1 k <;> cases decd c 3 1 k <;> simp [Bool.and_assoc]
set_option maxHeartbeats 1000000 in
theorem admits_any (c : DClu) (T : Int × Int → List DRow) (tb : Nat) (k : DPkt) (w : World) (h : TabsAs w.heap.size w tb c T) (hk : pktOk k = true) (hc : cluOk c) :
    Calls Tryz.prog 20 #[.pointer (some ⟨tb, 0, none⟩), .agg #[.int .i64 k.src, .int .i64 k.dst, .int .i64 k.proto, .int .i64 k.port]] w fun e w' => e = .returned (.tuple #[.bool (may c 1 k k.src k.dst && may c 2 k k.dst k.src), .int .i64 0]) ∧ Below w.heap.size w w' := by
  have HT := hid h
  have HK := hid hk
  have HC := hid hc
  have HM := hid (decd_may hc k)
  have hmf := mkFunc
  clear h hk hc
  go_enter Tryz.func20, Tryz.ntmps20
  go_wp2_with (first
    | (go_at_call 36; refine (pktRight_any k _).mono ?_; rw [HK.out]; rintro e w1 ⟨rfl, hb1⟩; obtain ⟨hc1, hf1⟩ := bcell hb1; have hz1 := hb_lt hb1)
    | (go_at_call 39; refine (places_any _).mono ?_; rintro e w2 ⟨⟨la, lc, rfl, hl2⟩, hb2⟩; have HL := hid hl2; clear hl2)
    | (go_at_call 38; go_must (refine (allPl (fun p => decd c p.1 p.2 k) _ _ _ _ _ _ HL.out (fun x w3 hx hb3 => admClo c T tb x k _ _ w3 (HT.out.to (by repeat (first | exact Below.refl _ _ | assumption | apply Ext.alloc | apply Ext.drewN | apply Ext.drew | refine Ext.trans ?_ (by assumption)))) hx HK.out HC.out (cell_to (cell_to (cell_to (by simp [go_sem]) hb1) hb2) hb3) (cell_to (cell_to (cell_to (by simp [go_sem]) hb1) hb2) hb3) (cell_to (cell_to (cell_to (by simp [go_sem]) hb1) hb2) hb3) (cell_to (cell_to (cell_to (by simp [go_sem]) hb1) hb2) hb3) (cell_to (cell_to (cell_to (by simp [go_sem]) hb1) hb2) hb3))).mono ?_); rw [HM.out]; rintro e w4 ⟨rfl, hb4⟩))
  go_ret2
  exact ⟨rfl, (by repeat (first | exact Below.refl _ _ | assumption | apply Ext.alloc | apply Ext.drewN | apply Ext.drew | refine Ext.trans ?_ (by assumption)))⟩
end Go.Proofs.YtmkjlhplgcifiaaGreat
