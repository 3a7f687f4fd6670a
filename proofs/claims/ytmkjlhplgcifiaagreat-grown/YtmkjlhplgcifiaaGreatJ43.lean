/-
  table.Make: a table (In).
  The map of tables: eight places, found by a host and a way.
  The places, in their order.
  slices.Clone at rows: a list of its own with the same rows.
-/
import Derived.Test.YtmkjlhplgcifiaaGreatJ38
import Derived.Test.YtmkjlhplgcifiaaGreatJ42
import Derived.Test.YtmkjlhplgcifiaaGreatJ39
import Derived.Laws.StructEq
import Derived.MapKept
namespace Go.Proofs.YtmkjlhplgcifiaaGreat
open Go.ChangeShapes Go.WideShapes Go.ChangeAt Go.RowKit
attribute [local simp] World.cell?_grow
attribute [local go_sem] World.cell?_grow
attribute [local simp] World.cell?_alloc_there
attribute [local go_sem] World.cell?_alloc_there
attribute [local go_sem] eqg_blk std_blk eqg_pod std_pod eqg_sel std_sel eqg_prt std_prt
attribute [local go_sem ↓] eql_blk eql_sel neq_sel eql_prt eql_pod
attribute [local go_sem ↓] met_in1 met_in2 met_re1 met_re2
attribute [local go_sem ↓] met_has1 met_has2
attribute [local go_sem ↓] met_bl1 met_bl2
attribute [local go_sem] eqg_row std_row
attribute [local go_sem ↓] neq_row
set_option linter.unusedVariables false
set_option linter.unusedSimpArgs false
set_option maxRecDepth 100000 in
set_option maxHeartbeats 2000000 in
theorem make_in (c : DClu) (host : Int) (pa qa : Option Addr) (pc qc : Nat) (w : World) (hp : rdPods w.heap.size w pa c.pods) (hq : rdPols w.heap.size w qa c.pols) (hc : cluOk c) (hpl : c.pods.length ≤ 8) (hql : c.pols.length ≤ 4) :
    Calls Tryz.prog 61 #[.agg #[.slice pa c.pods.length pc, .slice qa c.pols.length qc], .int .i64 host, .int .i64 2] w
      fun e w' => (∃ (a : Option Addr) (cc : Nat) (L : List DRow), e = .returned (.slice a (L ++ [lastRow]).length cc) ∧ TabRows c 2 host c.pods L ∧ rdRows w'.heap.size (hide w' (low w.heap.size)) a (L ++ [lastRow])) ∧ Below w.heap.size w w' := by
  have HP := hid hp
  have HQ := hid hq
  have HC := hid hc
  have hlen := hp.1
  have HLR := hid (show mkRow 2 ⟨0, 0⟩ ⟨0, 0⟩ ⟨0, 0, 65535⟩ true = lastRow from rfl)
  clear hp hq hc
  obtain ⟨i0, hi, iz0, iz1, iz2⟩ := info_parts info_row
  go_enter Tryz.func61, Tryz.ntmps61
  go_wp2
  have hBa : Below w.heap.size w (w.alloc (.cells #[.slice pa c.pods.length pc, .slice qa c.pols.length qc] 28)) := (by repeat (first | exact Below.refl _ _ | assumption | apply Ext.alloc | apply Ext.drewN | apply Ext.drew | refine Ext.trans ?_ (by assumption)))
  have s0 : (w.alloc (.cells #[.slice pa c.pods.length pc, .slice qa c.pols.length qc] 28)).cell? ⟨w.heap.size, 0, none⟩ = some (.slice pa c.pods.length pc) := by simp [go_sem]
  have s1 : (w.alloc (.cells #[.slice pa c.pods.length pc, .slice qa c.pols.length qc] 28)).cell? ⟨w.heap.size, 1, none⟩ = some (.slice qa c.pols.length qc) := by simp [go_sem]
  generalize w.alloc (.cells #[.slice pa c.pods.length pc, .slice qa c.pols.length qc] 28) = W at hBa s0 s1 ⊢
  have HBa := hid hBa
  have hWs := hBa.size
  clear hBa
  go_loopw [7, 13] (fun kv i wr => ∃ (k : Nat) (L : List DRow), k ≤ c.pods.length ∧ i = .int .i64 k ∧ wr.ownsRow W.heap.size 49 8 kv L.length (L.flatMap encRow) ∧ TabRows c 2 host (c.pods.take k) L ∧ Below W.heap.size W wr) (fun _ i _ => c.pods.length - (intOf i).toNat)
  case atStart => exact ⟨0, [], Nat.zero_le _, rfl, World.ownsRow_nil _ _ _ _, rfl, Below.refl _ _⟩
  case round =>
    obtain ⟨k, L, hk, rfl, hown, hT, hbw⟩ := hrel
    have HO2 := hid hown
    have HT := hid hT
    have HBW := hid hbw
    have HB := hid (show Below w.heap.size w wr from HBa.out.trans (hbw.mono hWs))
    have hLl := tabRows_le HC.out hpl hql hT
    rw [List.length_take] at hLl
    have t0 := cell_to s0 hbw
    have t1 := cell_to s1 hbw
    clear hT
    by_cases hlt : k < c.pods.length
    · obtain ⟨x, hxk⟩ : ∃ x, c.pods[k]? = some x := ⟨c.pods[k], by simp [hlt]⟩
      have HX := hid hxk
      have HXO := hid (HC.out.1.1 x (List.mem_of_getElem? hxk))
      have htk : c.pods.take (k + 1) = c.pods.take k ++ [x] := by rw [List.take_add_one, hxk]; rfl
      have HTK := hid htk
      clear hxk htk hown
      obtain ⟨b, off, rfl, hb, c0, c1, c2, c3⟩ := HP.out.2 k x HX.out
      have d0 := cell_to c0 HB.out
      have d1 := cell_to c1 HB.out
      have d2 := cell_to c2 HB.out
      have d3 := cell_to c3 HB.out
      clear c0 c1 c2 c3
      cases hx : (x.host == host)
      · have hne : ¬ x.host = host := by simpa using hx
        go_wp2
        exact ⟨⟨k + 1, L, by omega, by go_num, HO2.out.alloc _, by rw [HTK.out]; simpa using tabRows_snoc HT.out (p := x) (A := []) (by rw [if_neg hne]), HBW.out.alloc HBW.out.size _⟩, by simp [intOf]; omega⟩
      · have hne : x.host = host := by simpa using hx
        have HNE := hid hne
        have gw : Below w.heap.size w (wr.alloc (.cells #[.int .i64 x.host, .int .i64 x.ip, .int .i64 x.space, .int .i64 x.labels] 54)) := HB.out.alloc HB.out.size _
        have x0 := cell_past (o := (.cells #[.int .i64 x.host, .int .i64 x.ip, .int .i64 x.space, .int .i64 x.labels] 54)) t0
        have x1 := cell_past (o := (.cells #[.int .i64 x.host, .int .i64 x.ip, .int .i64 x.space, .int .i64 x.labels] 54)) t1
        have Hgw := hid gw
        clear gw hne
        go_wp2_with (first
          | (go_at_call 100; refine (ofPod_in c x _ _ _ _ _ (rdPods.ext Hgw.out Hgw.out.size HP.out) (rdPols.ext Hgw.out Hgw.out.size HQ.out) HC.out hpl hql HXO.out).mono ?_; rintro e w2 ⟨⟨a2, cc2, A, rfl, hA, hr2⟩, hb2⟩; have HA := hid hA; have HR2 := hid hr2; have hAl := podRows_le HC.out hpl hql hA; have HO3 := hid (own_to (HO2.out.alloc (.cells #[.int .i64 x.host, .int .i64 x.ip, .int .i64 x.space, .int .i64 x.labels] 54)) hb2); have hW2 : Below W.heap.size W w2 := (HBW.out.alloc HBW.out.size _).trans (hb2.mono (by have := HBW.out.size; simp; omega)); clear hA hr2 hb2)
          | (at_builtin; refine wpList_append_list _ rfl _ _ 40 rfl W.heap.size 49 i0 _ 8 64 Tryz.underlying40 hi iz0 iz1 iz2 rfl (by decide) _ _ _ rfl HO3.out a2 _ cc2 (A.flatMap encRow) rfl (oflat_len (k := 8) encRow_len _) (news_of (k := 8) encRow_len (by decide) HR2.out (fun _ _ _ => eRow_cells)) (encRows_one _) (by unfold maxLen; omega) (by omega) hW2.size ?_; intro v' w3 hown' hg3))
        refine ⟨⟨k + 1, L ++ A, by omega, by go_num, ?_, ?_, own_below hW2 hW2.size HO3.out hg3⟩, by simp [intOf]; omega⟩
        · rw [List.length_append, List.flatMap_append]; exact hown'
        · rw [HTK.out]; exact tabRows_snoc HT.out (by rw [if_pos HNE.out]; exact HA.out)
    · have he : c.pods.take k = c.pods := List.take_of_length_le (by omega)
      have hT := HT.out
      rw [he] at hT
      have HTT := hid hT
      obtain ⟨ra, rc, rfl, _, _⟩ := own_slice hown
      have M1 := hid True.intro
      clear hT hown t0 t1
      go_wp2_with (first
        | (go_at_call 102; have m1 := M1.out; refine (allB_any _).mono ?_; rintro e w4 ⟨rfl, hb4⟩; have HB4 := hid hb4; clear hb4 M1 m1)
        | (go_at_call 102; refine (allB_any _).mono ?_; rintro e w5 ⟨rfl, hb5⟩; have HB5 := hid hb5; clear hb5)
        | (go_at_call 103; refine (everyPort_any _).mono ?_; rintro e w6 ⟨rfl, hb6⟩; have HB6 := hid hb6; clear hb6)
        | (go_at_call 101; refine (of_in ⟨0, 0⟩ ⟨0, 0⟩ ⟨0, 0, 65535⟩ true _).mono ?_; rintro e w7 ⟨rfl, hb7⟩; have HB7 := hid hb7; have HO7 := hid (own_to (own_to (own_to (own_to HO2.out HB4.out) HB5.out) HB6.out) hb7); have HS7 := hid (show wr.heap.size ≤ w7.heap.size from Nat.le_trans HB4.out.size (Nat.le_trans HB5.out.size (Nat.le_trans HB6.out.size hb7.size))); have HW7 := hid (show Below W.heap.size W w7 from HBW.out.trans ((HB4.out.mono HBW.out.size).trans ((HB5.out.mono (Nat.le_trans HBW.out.size HB4.out.size)).trans ((HB6.out.mono (Nat.le_trans HBW.out.size (Nat.le_trans HB4.out.size HB5.out.size))).trans (hb7.mono (Nat.le_trans HBW.out.size (Nat.le_trans HB4.out.size (Nat.le_trans HB5.out.size HB6.out.size)))))))); clear hb7)
        | (at_builtin; refine wpList_append_own _ rfl _ _ 40 rfl W.heap.size 49 i0 _ 8 64 Tryz.underlying40 hi iz0 iz1 iz2 rfl (by decide) _ _ _ rfl (HO7.out.alloc _) ⟨w7.heap.size, 0, none⟩ 1 1 [.int .i64 (mkRow 2 ⟨0, 0⟩ ⟨0, 0⟩ ⟨0, 0, 65535⟩ true).sb, .int .i64 (mkRow 2 ⟨0, 0⟩ ⟨0, 0⟩ ⟨0, 0, 65535⟩ true).sn, .int .i64 (mkRow 2 ⟨0, 0⟩ ⟨0, 0⟩ ⟨0, 0, 65535⟩ true).db, .int .i64 (mkRow 2 ⟨0, 0⟩ ⟨0, 0⟩ ⟨0, 0, 65535⟩ true).dn, .int .i64 (mkRow 2 ⟨0, 0⟩ ⟨0, 0⟩ ⟨0, 0, 65535⟩ true).proto, .int .i64 (mkRow 2 ⟨0, 0⟩ ⟨0, 0⟩ ⟨0, 0, 65535⟩ true).lo, .int .i64 (mkRow 2 ⟨0, 0⟩ ⟨0, 0⟩ ⟨0, 0, 65535⟩ true).hi, .bool (mkRow 2 ⟨0, 0⟩ ⟨0, 0⟩ ⟨0, 0, 65535⟩ true).allow] rfl rfl (cell_new_list _ [.int .i64 (mkRow 2 ⟨0, 0⟩ ⟨0, 0⟩ ⟨0, 0, 65535⟩ true).sb, .int .i64 (mkRow 2 ⟨0, 0⟩ ⟨0, 0⟩ ⟨0, 0, 65535⟩ true).sn, .int .i64 (mkRow 2 ⟨0, 0⟩ ⟨0, 0⟩ ⟨0, 0, 65535⟩ true).db, .int .i64 (mkRow 2 ⟨0, 0⟩ ⟨0, 0⟩ ⟨0, 0, 65535⟩ true).dn, .int .i64 (mkRow 2 ⟨0, 0⟩ ⟨0, 0⟩ ⟨0, 0, 65535⟩ true).proto, .int .i64 (mkRow 2 ⟨0, 0⟩ ⟨0, 0⟩ ⟨0, 0, 65535⟩ true).lo, .int .i64 (mkRow 2 ⟨0, 0⟩ ⟨0, 0⟩ ⟨0, 0, 65535⟩ true).hi, .bool (mkRow 2 ⟨0, 0⟩ ⟨0, 0⟩ ⟨0, 0, 65535⟩ true).allow] _) (encRow_one (mkRow 2 ⟨0, 0⟩ ⟨0, 0⟩ ⟨0, 0, 65535⟩ true)) (by unfold maxLen; omega) (by omega) (by have := HW7.out.size; simp; omega) ?_; intro v' w8 hown8 hg8 _; obtain ⟨a8, c8, rfl, _, hr8⟩ := own_rows_up (own_snoc (enc := encRow) (x := lastRow) hown8) (by simp; omega) hWs; have HR8 := hid hr8; have HB8 := hid (own_below (HW7.out.alloc HW7.out.size _) (by have := HW7.out.size; simp; omega) (HO7.out.alloc _) hg8); clear hr8 hown8 hg8))
      go_ret
      exact ⟨⟨a8, c8, L, by rw [List.length_append]; rfl, HTT.out, HR8.out⟩, HBa.out.trans (HB8.out.mono hWs)⟩
end Go.Proofs.YtmkjlhplgcifiaaGreat
namespace Go.Proofs.YtmkjlhplgcifiaaGreat
open Go.ChangeShapes Go.WideShapes Go.ChangeAt Go.RowKit
attribute [local simp] World.cell?_grow
attribute [local go_sem] World.cell?_grow
attribute [local simp] World.cell?_alloc_there
attribute [local go_sem] World.cell?_alloc_there
attribute [local go_sem] eqg_blk std_blk eqg_pod std_pod eqg_sel std_sel eqg_prt std_prt
attribute [local go_sem ↓] eql_blk eql_sel neq_sel eql_prt eql_pod
attribute [local go_sem ↓] met_in1 met_in2 met_re1 met_re2
attribute [local go_sem ↓] met_has1 met_has2
attribute [local go_sem ↓] met_bl1 met_bl2
attribute [local go_sem] eqg_row std_row
attribute [local go_sem ↓] neq_row
set_option linter.unusedVariables false
set_option linter.unusedSimpArgs false
def plist : List (Int × Int) := [(0, 1), (0, 2), (1, 1), (1, 2), (2, 1), (2, 2), (3, 1), (3, 2)]
def plKey (h y : Int) : Value := .agg #[.int .i64 h, .int .i64 y]
def ents : List (Int × Int) → List Value → Nat → List MapEntry
  | p :: ps, v :: vs, n => ⟨plKey p.1 p.2, v, n⟩ :: ents ps vs (n + 1)
  | _, _, _ => []
def seek (h y : Int) : List (Int × Int) → List Value → Nat → Option (Nat × Value)
  | p :: ps, v :: vs, i => if (decide (h = p.1) && decide (y = p.2)) = true then some (i, v) else seek h y ps vs (i + 1)
  | _, _, _ => none
theorem std_place : Tryz.prog.stoodInHeld 99 = false := by kernel_rfl
theorem und_place : Tryz.prog.underlying 99 = some (.struct (Tryz.prog.fieldsOf 99)) := by kernel_rfl
theorem equal_place (a b c d : Int) (w : World) : (Op.equal 99 (plKey a b) (plKey c d)).run Tryz.prog w = .ok (decide (a = c) && decide (b = d)) w := by
  show (Op.equalIn 10000 99 (.agg #[.int .i64 a, .int .i64 b]) (.agg #[.int .i64 c, .int .i64 d])).run Tryz.prog w = _
  by_cases h1 : a = c <;> by_cases h2 : b = d <;> simp [go_sem, std_place, h1, h2]
theorem check_place (e : Bool) (h y : Int) (w : World) : (Instr.checkKey e 10000 99 (plKey h y)).run Tryz.prog w = .ok () w := by kernel_rfl
theorem ask_place (h y : Int) (w : World) : ∀ (ps : List (Int × Int)) (vs : List Value) (n i : Nat), (Instr.findAsking 99 (plKey h y) (ents ps vs n) i).run Tryz.prog w = .ok (seek h y ps vs i) w
  | [], _, _, _ => by simp [ents, seek, Instr.findAsking]
  | _ :: _, [], _, _ => by simp [ents, seek, Instr.findAsking]
  | p :: ps, v :: vs, n, i => by
    simp only [ents, seek, Instr.findAsking, Sem.run_bind, equal_place, Result.andThen_ok]
    by_cases hc : (decide (h = p.1) && decide (y = p.2)) = true
    · rw [if_pos hc, if_pos hc]; rfl
    · rw [if_neg hc, if_neg hc]; exact ask_place h y w ps vs (n + 1) (i + 1)
theorem now_place (fs : Array Field) (k : Value) (p : Int × Int) (ps : List (Int × Int)) (v : Value) (vs : List Value) (n i : Nat) : Instr.findNow (.struct fs) k (ents (p :: ps) (v :: vs) n) i = none := by
  simp [ents, Instr.findNow, Instr.sameNow]
theorem find_place (h y : Int) (w : World) (ps : List (Int × Int)) (vs : List Value) (n : Nat) : (Instr.findKey 99 (plKey h y) (ents ps vs n)).run Tryz.prog w = .ok (seek h y ps vs 0) w := by
  unfold Instr.findKey
  rw [Sem.run_bind, run_underlying und_place, Result.andThen_ok]
  cases ps with
  | nil => simp [ents, seek, Instr.findNow]
  | cons p ps =>
    cases vs with
    | nil => simp [ents, seek, Instr.findNow]
    | cons v vs => rw [now_place]; exact ask_place h y w _ _ _ _
theorem und_tabs : Tryz.prog.underlying 92 = some (.map 99 40) := by kernel_rfl
theorem zero_rows (w : World) : (zeroValue 40).run Tryz.prog w = .ok (.slice none 0 0) w := by kernel_rfl
/-- a map in memory -/
def MapAt (w : World) (r : Nat) (vs : List Value) : Prop := w.heap[r]? = some (.map (ents plist vs 0).toArray vs.length)
theorem look_place1 (w : World) (r : Nat) (vs : List Value) (hm : MapAt w r vs) (h y : Int) : (Instr.lookup 92 (.map (some r)) (.agg #[.int .i64 h, .int .i64 y]) false).run Tryz.prog w = .ok (((seek h y plist vs 0).map (·.2)).getD (.slice none 0 0)) w := by
  have h1 := check_place (ents plist vs 0).toArray.isEmpty h y w
  have h2 := find_place h y w plist vs 0
  unfold plKey at h1 h2
  unfold Instr.lookup
  simp only [Sem.run_bind, run_underlying und_tabs, Result.andThen_ok, Go.run_getObj_map w r _ _ hm, h1, h2, Sem.run_pure]
  cases hs : seek h y plist vs 0 with
  | none => simp [zero_rows]
  | some q => simp
theorem update_place (w : World) (r : Nat) (vs : List Value) (hm : MapAt w r vs) (h y : Int) (v : Value) (hs : seek h y plist vs 0 = none) : (Instr.mapUpdate 92 (.map (some r)) (.agg #[.int .i64 h, .int .i64 y]) v).run Tryz.prog w = .ok () { w with heap := w.heap.setIfInBounds r (.map ((ents plist vs 0).toArray.push ⟨plKey h y, v, vs.length⟩) (vs.length + 1)) } := by
  have h1 := check_place false h y w
  have h2 := find_place h y w plist vs 0
  unfold plKey at h1 h2
  unfold Instr.mapUpdate
  simp only [Sem.run_bind, run_underlying und_tabs, Result.andThen_ok, Go.run_getObj_map w r _ _ hm, h1, h2, Sem.run_pure, hs]
  exact Go.MapKept.run_setObj_map _ hm
end Go.Proofs.YtmkjlhplgcifiaaGreat
namespace Go.Proofs.YtmkjlhplgcifiaaGreat
open Go.ChangeShapes Go.WideShapes Go.ChangeAt Go.RowKit
attribute [local simp] World.cell?_grow
attribute [local go_sem] World.cell?_grow
attribute [local simp] World.cell?_alloc_there
attribute [local go_sem] World.cell?_alloc_there
attribute [local go_sem] eqg_blk std_blk eqg_pod std_pod eqg_sel std_sel eqg_prt std_prt
attribute [local go_sem ↓] eql_blk eql_sel neq_sel eql_prt eql_pod
attribute [local go_sem ↓] met_in1 met_in2 met_re1 met_re2
attribute [local go_sem ↓] met_has1 met_has2
attribute [local go_sem ↓] met_bl1 met_bl2
attribute [local go_sem] eqg_row std_row
attribute [local go_sem ↓] neq_row
set_option linter.unusedVariables false
set_option linter.unusedSimpArgs false
def encPl (p : Int × Int) : List Value := [.int .i64 p.1, .int .i64 p.2]
def ePl (_B : Nat) (w : World) (b o : Nat) (x : Int × Int) : Prop := w.cell? ⟨b, o, none⟩ = some (.int .i64 x.1) ∧ w.cell? ⟨b, o + 1, none⟩ = some (.int .i64 x.2)
abbrev rdPls (B : Nat) (w : World) (a : Option Addr) (l : List (Int × Int)) : Prop := RdSl B w 2 16 ePl a l
theorem info_pl : (Tryz.prog.info? 99).map (fun i => (i.zero, i.size, i.bytes)) = some (some (.agg #[.int .i64 0, .int .i64 0]), 2, 16) := by kernel_rfl
theorem plist_step : ∀ k : Fin 4, plist.take (2 * (k.val + 1)) = plist.take (2 * k.val) ++ [((k.val : Int), 1), ((k.val : Int), 2)] := by decide
theorem plist_len (k : Nat) (h : k ≤ 4) : (plist.take (2 * k)).length = 2 * k := by rw [List.length_take, show plist.length = 8 from rfl]; omega
theorem own_snoc2 {α : Type} {w : World} {base : Nat} {e : TypeId} {k : Nat} {v : Value} {l : List α} {x y : α} {enc : α → List Value} (h : w.ownsRow base e k v (l.length + 2) (l.flatMap enc ++ (enc x ++ enc y))) : w.ownsRow base e k v (l ++ [x, y]).length ((l ++ [x, y]).flatMap enc) := by
  simpa using h
set_option maxRecDepth 100000 in
theorem places_any (w : World) : Calls Tryz.prog 39 #[] w fun e w' => (∃ a c, e = .returned (.slice a plist.length c) ∧ rdPls w'.heap.size w' a plist) ∧ Below w.heap.size w w' := by
  obtain ⟨i0, hi, iz0, iz1, iz2⟩ := info_parts info_pl
  go_enter Tryz.func39, Tryz.ntmps39
  go_wp2
  go_loopw [1, 3] (fun kv i wr => ∃ k : Nat, k ≤ 4 ∧ i = .int .i64 k ∧ wr.ownsRow w.heap.size 99 2 kv (plist.take (2 * k)).length ((plist.take (2 * k)).flatMap encPl) ∧ Below w.heap.size w wr) (fun _ i _ => 4 - (intOf i).toNat)
  case atStart => exact ⟨0, Nat.zero_le _, rfl, World.ownsRow_nil _ _ _ _, Below.refl _ _⟩
  case round =>
    obtain ⟨k, hk, rfl, hown, hbw⟩ := hrel
    have HO := hid hown
    have hpl := plist_len k hk
    clear hown
    by_cases hlt : k < 4
    · have HS := hid (plist_step ⟨k, hlt⟩)
      have hk1 : (k : Int) < 4 := by omega
      go_wp2_with (at_builtin; refine wpList_append_own _ rfl _ _ 105 rfl w.heap.size 99 i0 _ 2 16 Tryz.underlying105 hi iz0 iz1 iz2 rfl (by decide) _ _ _ rfl (HO.out.alloc _) ⟨wr.heap.size, 0, none⟩ 2 2 [.int .i64 k, .int .i64 1, .int .i64 k, .int .i64 2] rfl rfl (cell_new_list _ [.int .i64 k, .int .i64 1, .int .i64 k, .int .i64 2] _) (fun u hu => by simp at hu; rcases hu with rfl | rfl | rfl | rfl <;> rfl) (by unfold maxLen; omega) (by omega) (by have := hbw.size; simp; omega) ?_; intro v' w3 hown' hg3 _)
      exact ⟨⟨k + 1, by omega, by go_num, by rw [HS.out]; exact own_snoc2 (enc := encPl) (x := ((k : Int), 1)) (y := ((k : Int), 2)) hown', own_below (hbw.alloc hbw.size _) (by have := hbw.size; simp; omega) (HO.out.alloc _) hg3⟩, by simp [intOf]; omega⟩
    · have e : k = 4 := by omega
      subst e
      have ho := HO.out
      rw [show plist.take (2 * 4) = plist from rfl] at ho
      obtain ⟨a, c, rfl, _, hr⟩ := own_rd (α := Int × Int) (k := 2) (l := plist) (enc := encPl) (E := ePl) (bytes := 16) (fun _ => rfl) ho (by decide) (by decide) fun b o x _ _ hc => ⟨hc 0 _ rfl, hc 1 _ rfl⟩
      have HR := hid hr
      clear ho hr
      go_wp2
      go_ret
      exact ⟨⟨a, c, rfl, HR.out⟩, hbw⟩
end Go.Proofs.YtmkjlhplgcifiaaGreat
namespace Go.Proofs.YtmkjlhplgcifiaaGreat
open Go.ChangeShapes Go.WideShapes Go.ChangeAt Go.RowKit
attribute [local simp] World.cell?_grow
attribute [local go_sem] World.cell?_grow
attribute [local simp] World.cell?_alloc_there
attribute [local go_sem] World.cell?_alloc_there
attribute [local go_sem] eqg_blk std_blk eqg_pod std_pod eqg_sel std_sel eqg_prt std_prt
attribute [local go_sem ↓] eql_blk eql_sel neq_sel eql_prt eql_pod
attribute [local go_sem ↓] met_in1 met_in2 met_re1 met_re2
attribute [local go_sem ↓] met_has1 met_has2
attribute [local go_sem ↓] met_bl1 met_bl2
attribute [local go_sem] eqg_row std_row
attribute [local go_sem ↓] neq_row
set_option linter.unusedVariables false
set_option linter.unusedSimpArgs false
end Go.Proofs.YtmkjlhplgcifiaaGreat
