/-
  table.Make: a table (Out).
-/
import Derived.Test.YtmkjlhplgcifiaaGreatJ37
import Derived.Test.YtmkjlhplgcifiaaGreatJ16
namespace Go.Proofs.YtmkjlhplgcifiaaGreat
open Go.ChangeShapes Go.WideShapes Go.ChangeAt Go.RowKit
attribute [local simp] World.cell?_grow
attribute [local go_sem] World.cell?_grow
attribute [local simp] World.cell?_alloc_there
attribute [local go_sem] World.cell?_alloc_there
attribute [local go_sem] eqg_blk std_blk eqg_pod std_pod eqg_sel std_sel eqg_prt std_prt
attribute [local go_sem ↓] eql_blk eql_sel neq_sel eql_prt eql_pod
attribute [local go_sem ↓] met_in1 met_in2 met_re1 met_re2
attribute [local go_sem ↓] met_has1 met_has2
attribute [local go_sem ↓] met_bl1 met_bl2
attribute [local go_sem] eqg_row std_row
attribute [local go_sem ↓] neq_row
set_option linter.unusedVariables false
set_option linter.unusedSimpArgs false
theorem rdRows.sub {B B' : Nat} {w w' : World} (hs : Sub w w') (hB : B ≤ B') {a : Option Addr} {l : List DRow} (h : rdRows B w a l) : rdRows B' w' a l :=
  RdSl.ext h hB fun b o x _ ⟨h0, h1, h2, h3, h4, h5, h6, h7⟩ => ⟨hs _ _ _ h0, hs _ _ _ h1, hs _ _ _ h2, hs _ _ _ h3, hs _ _ _ h4, hs _ _ _ h5, hs _ _ _ h6, hs _ _ _ h7⟩
theorem own_rows_up {w : World} {base n : Nat} {e : TypeId} {v : Value} {l : List DRow} (h : w.ownsRow base e 8 v l.length (l.flatMap encRow)) (hy : l.length * 64 ≤ 140737488351232) (hn : n ≤ base) : ∃ a c, v = .slice a l.length c ∧ l.length ≤ c ∧ rdRows w.heap.size (hide w (low n)) a l := by
  have ho : (hide w (low n)).ownsRow base e 8 v l.length (l.flatMap encRow) := own_stay h fun g hg => hide_block _ _ _ (low_false.2 (Nat.le_trans hn (h.lt g hg).1))
  obtain ⟨a, c, h1, h2, h3⟩ := own_rows ho hy
  rw [hide_size] at h3
  exact ⟨a, c, h1, h2, h3⟩
def lastRow : DRow := ⟨0, 0, 0, 0, 0, 0, 65535, true⟩
/-- the rows of a table but for the last one, for the pods of a host, one behind the other -/
def TabRows (c : DClu) (way host : Int) : List DPod → List DRow → Prop
  | [], L => L = []
  | p :: ps, L => ∃ A B : List DRow, (if p.host = host then PodRows c way p A else A = []) ∧ TabRows c way host ps B ∧ L = A ++ B
theorem tabRows_snoc {c : DClu} {way host : Int} : ∀ {ps : List DPod} {L : List DRow} {p : DPod} {A : List DRow}, TabRows c way host ps L → (if p.host = host then PodRows c way p A else A = []) → TabRows c way host (ps ++ [p]) (L ++ A)
  | [], L, p, A, h, hA => by
    have h : L = [] := h
    subst h
    exact ⟨A, [], hA, rfl, by simp⟩
  | q :: ps, L, p, A, ⟨A', B', h1, h2, h3⟩, hA => ⟨A', B' ++ A, h1, tabRows_snoc h2 hA, by rw [h3, List.append_assoc]⟩
theorem podRows_le {c : DClu} {p : DPod} {way : Int} {A : List DRow} (hc : cluOk c) (hpl : c.pods.length ≤ 8) (hql : c.pols.length ≤ 4) (h : PodRows c way p A) : A.length ≤ 2081 := by
  rcases h with ⟨_, rfl⟩ | ⟨_, B, _, h2, rfl⟩
  · simp
  · have := allowRows_le (way := way) hc hpl hql (p := p)
    rw [List.length_append]; simp; omega
theorem tabRows_le {c : DClu} {way host : Int} (hc : cluOk c) (hpl : c.pods.length ≤ 8) (hql : c.pols.length ≤ 4) : ∀ {ps : List DPod} {L : List DRow}, TabRows c way host ps L → L.length ≤ ps.length * 2081
  | [], L, h => by have h : L = [] := h; subst h; simp
  | q :: ps, L, ⟨A, B, h1, h2, h3⟩ => by
    have hB := tabRows_le hc hpl hql h2
    have hA : A.length ≤ 2081 := by
      split at h1
      · exact podRows_le hc hpl hql h1
      · subst h1; simp
    rw [h3, List.length_append, List.length_cons, Nat.add_mul]; omega
theorem eRow_cells {B : Nat} {w : World} {b o : Nat} {x : DRow} (h : eRow B w b o x) : ∀ j u, (encRow x)[j]? = some u → w.cell? ⟨b, o + j, none⟩ = some u := by
  obtain ⟨h0, h1, h2, h3, h4, h5, h6, h7⟩ := h
  intro j u hj
  match j, hj with
  | 0, hj => simp [encRow] at hj; subst hj; exact h0
  | 1, hj => simp [encRow] at hj; subst hj; exact h1
  | 2, hj => simp [encRow] at hj; subst hj; exact h2
  | 3, hj => simp [encRow] at hj; subst hj; exact h3
  | 4, hj => simp [encRow] at hj; subst hj; exact h4
  | 5, hj => simp [encRow] at hj; subst hj; exact h5
  | 6, hj => simp [encRow] at hj; subst hj; exact h6
  | 7, hj => simp [encRow] at hj; subst hj; exact h7
  | j + 8, hj => simp [encRow] at hj
theorem encRows_one (l : List DRow) : ∀ u ∈ l.flatMap encRow, u.oneCell' = true := by
  intro u hu
  obtain ⟨x, _, hx⟩ := List.mem_flatMap.1 hu
  exact encRow_one x u hx
set_option maxRecDepth 100000 in
set_option maxHeartbeats 2000000 in
theorem make_out (c : DClu) (host : Int) (pa qa : Option Addr) (pc qc : Nat) (w : World) (hp : rdPods w.heap.size w pa c.pods) (hq : rdPols w.heap.size w qa c.pols) (hc : cluOk c) (hpl : c.pods.length ≤ 8) (hql : c.pols.length ≤ 4) :
    Calls Tryz.prog 61 #[.agg #[.slice pa c.pods.length pc, .slice qa c.pols.length qc], .int .i64 host, .int .i64 1] w
      fun e w' => (∃ (a : Option Addr) (cc : Nat) (L : List DRow), e = .returned (.slice a (L ++ [lastRow]).length cc) ∧ TabRows c 1 host c.pods L ∧ rdRows w'.heap.size (hide w' (low w.heap.size)) a (L ++ [lastRow])) ∧ Below w.heap.size w w' := by
  have HP := hid hp
  have HQ := hid hq
  have HC := hid hc
  have hlen := hp.1
  have HLR := hid (show mkRow 1 ⟨0, 0⟩ ⟨0, 0⟩ ⟨0, 0, 65535⟩ true = lastRow from rfl)
  clear hp hq hc
  obtain ⟨i0, hi, iz0, iz1, iz2⟩ := info_parts info_row
  go_enter Tryz.func61, Tryz.ntmps61
  go_wp2
  have hBa : Below w.heap.size w (w.alloc (.cells #[.slice pa c.pods.length pc, .slice qa c.pols.length qc] 28)) := (by repeat (first | exact Below.refl _ _ | assumption | apply Ext.alloc | apply Ext.drewN | apply Ext.drew | refine Ext.trans ?_ (by assumption)))
  have s0 : (w.alloc (.cells #[.slice pa c.pods.length pc, .slice qa c.pols.length qc] 28)).cell? ⟨w.heap.size, 0, none⟩ = some (.slice pa c.pods.length pc) := by simp [go_sem]
  have s1 : (w.alloc (.cells #[.slice pa c.pods.length pc, .slice qa c.pols.length qc] 28)).cell? ⟨w.heap.size, 1, none⟩ = some (.slice qa c.pols.length qc) := by simp [go_sem]
  generalize w.alloc (.cells #[.slice pa c.pods.length pc, .slice qa c.pols.length qc] 28) = W at hBa s0 s1 ⊢
  have HBa := hid hBa
  have hWs := hBa.size
  clear hBa
  go_loopw [7, 13] (fun kv i wr => ∃ (k : Nat) (L : List DRow), k ≤ c.pods.length ∧ i = .int .i64 k ∧ wr.ownsRow W.heap.size 49 8 kv L.length (L.flatMap encRow) ∧ TabRows c 1 host (c.pods.take k) L ∧ Below W.heap.size W wr) (fun _ i _ => c.pods.length - (intOf i).toNat)
  case atStart => exact ⟨0, [], Nat.zero_le _, rfl, World.ownsRow_nil _ _ _ _, rfl, Below.refl _ _⟩
  case round =>
    obtain ⟨k, L, hk, rfl, hown, hT, hbw⟩ := hrel
    have HO2 := hid hown
    have HT := hid hT
    have HBW := hid hbw
    have HB := hid (show Below w.heap.size w wr from HBa.out.trans (hbw.mono hWs))
    have hLl := tabRows_le HC.out hpl hql hT
    rw [List.length_take] at hLl
    have t0 := cell_to s0 hbw
    have t1 := cell_to s1 hbw
    clear hT
    by_cases hlt : k < c.pods.length
    · obtain ⟨x, hxk⟩ : ∃ x, c.pods[k]? = some x := ⟨c.pods[k], by simp [hlt]⟩
      have HX := hid hxk
      have HXO := hid (HC.out.1.1 x (List.mem_of_getElem? hxk))
      have htk : c.pods.take (k + 1) = c.pods.take k ++ [x] := by rw [List.take_add_one, hxk]; rfl
      have HTK := hid htk
      clear hxk htk hown
      obtain ⟨b, off, rfl, hb, c0, c1, c2, c3⟩ := HP.out.2 k x HX.out
      have d0 := cell_to c0 HB.out
      have d1 := cell_to c1 HB.out
      have d2 := cell_to c2 HB.out
      have d3 := cell_to c3 HB.out
      clear c0 c1 c2 c3
      cases hx : (x.host == host)
      · have hne : ¬ x.host = host := by simpa using hx
        go_wp2
        exact ⟨⟨k + 1, L, by omega, by go_num, HO2.out.alloc _, by rw [HTK.out]; simpa using tabRows_snoc HT.out (p := x) (A := []) (by rw [if_neg hne]), HBW.out.alloc HBW.out.size _⟩, by simp [intOf]; omega⟩
      · have hne : x.host = host := by simpa using hx
        have HNE := hid hne
        have gw : Below w.heap.size w (wr.alloc (.cells #[.int .i64 x.host, .int .i64 x.ip, .int .i64 x.space, .int .i64 x.labels] 54)) := HB.out.alloc HB.out.size _
        have x0 := cell_past (o := (.cells #[.int .i64 x.host, .int .i64 x.ip, .int .i64 x.space, .int .i64 x.labels] 54)) t0
        have x1 := cell_past (o := (.cells #[.int .i64 x.host, .int .i64 x.ip, .int .i64 x.space, .int .i64 x.labels] 54)) t1
        have Hgw := hid gw
        clear gw hne
        go_wp2_with (first
          | (go_at_call 100; refine (ofPod_out c x _ _ _ _ _ (rdPods.ext Hgw.out Hgw.out.size HP.out) (rdPols.ext Hgw.out Hgw.out.size HQ.out) HC.out hpl hql HXO.out).mono ?_; rintro e w2 ⟨⟨a2, cc2, A, rfl, hA, hr2⟩, hb2⟩; have HA := hid hA; have HR2 := hid hr2; have hAl := podRows_le HC.out hpl hql hA; have HO3 := hid (own_to (HO2.out.alloc (.cells #[.int .i64 x.host, .int .i64 x.ip, .int .i64 x.space, .int .i64 x.labels] 54)) hb2); have hW2 : Below W.heap.size W w2 := (HBW.out.alloc HBW.out.size _).trans (hb2.mono (by have := HBW.out.size; simp; omega)); clear hA hr2 hb2)
          | (at_builtin; refine wpList_append_list _ rfl _ _ 40 rfl W.heap.size 49 i0 _ 8 64 Tryz.underlying40 hi iz0 iz1 iz2 rfl (by decide) _ _ _ rfl HO3.out a2 _ cc2 (A.flatMap encRow) rfl (oflat_len (k := 8) encRow_len _) (news_of (k := 8) encRow_len (by decide) HR2.out (fun _ _ _ => eRow_cells)) (encRows_one _) (by unfold maxLen; omega) (by omega) hW2.size ?_; intro v' w3 hown' hg3))
        refine ⟨⟨k + 1, L ++ A, by omega, by go_num, ?_, ?_, own_below hW2 hW2.size HO3.out hg3⟩, by simp [intOf]; omega⟩
        · rw [List.length_append, List.flatMap_append]; exact hown'
        · rw [HTK.out]; exact tabRows_snoc HT.out (by rw [if_pos HNE.out]; exact HA.out)
    · have he : c.pods.take k = c.pods := List.take_of_length_le (by omega)
      have hT := HT.out
      rw [he] at hT
      have HTT := hid hT
      obtain ⟨ra, rc, rfl, _, _⟩ := own_slice hown
      have M1 := hid True.intro
      clear hT hown t0 t1
      go_wp2_with (first
        | (go_at_call 102; have m1 := M1.out; refine (allB_any _).mono ?_; rintro e w4 ⟨rfl, hb4⟩; have HB4 := hid hb4; clear hb4 M1 m1)
        | (go_at_call 102; refine (allB_any _).mono ?_; rintro e w5 ⟨rfl, hb5⟩; have HB5 := hid hb5; clear hb5)
        | (go_at_call 103; refine (everyPort_any _).mono ?_; rintro e w6 ⟨rfl, hb6⟩; have HB6 := hid hb6; clear hb6)
        | (go_at_call 101; refine (of_out ⟨0, 0⟩ ⟨0, 0⟩ ⟨0, 0, 65535⟩ true _).mono ?_; rintro e w7 ⟨rfl, hb7⟩; have HB7 := hid hb7; have HO7 := hid (own_to (own_to (own_to (own_to HO2.out HB4.out) HB5.out) HB6.out) hb7); have HS7 := hid (show wr.heap.size ≤ w7.heap.size from Nat.le_trans HB4.out.size (Nat.le_trans HB5.out.size (Nat.le_trans HB6.out.size hb7.size))); have HW7 := hid (show Below W.heap.size W w7 from HBW.out.trans ((HB4.out.mono HBW.out.size).trans ((HB5.out.mono (Nat.le_trans HBW.out.size HB4.out.size)).trans ((HB6.out.mono (Nat.le_trans HBW.out.size (Nat.le_trans HB4.out.size HB5.out.size))).trans (hb7.mono (Nat.le_trans HBW.out.size (Nat.le_trans HB4.out.size (Nat.le_trans HB5.out.size HB6.out.size)))))))); clear hb7)
        | (at_builtin; refine wpList_append_own _ rfl _ _ 40 rfl W.heap.size 49 i0 _ 8 64 Tryz.underlying40 hi iz0 iz1 iz2 rfl (by decide) _ _ _ rfl (HO7.out.alloc _) ⟨w7.heap.size, 0, none⟩ 1 1 [.int .i64 (mkRow 1 ⟨0, 0⟩ ⟨0, 0⟩ ⟨0, 0, 65535⟩ true).sb, .int .i64 (mkRow 1 ⟨0, 0⟩ ⟨0, 0⟩ ⟨0, 0, 65535⟩ true).sn, .int .i64 (mkRow 1 ⟨0, 0⟩ ⟨0, 0⟩ ⟨0, 0, 65535⟩ true).db, .int .i64 (mkRow 1 ⟨0, 0⟩ ⟨0, 0⟩ ⟨0, 0, 65535⟩ true).dn, .int .i64 (mkRow 1 ⟨0, 0⟩ ⟨0, 0⟩ ⟨0, 0, 65535⟩ true).proto, .int .i64 (mkRow 1 ⟨0, 0⟩ ⟨0, 0⟩ ⟨0, 0, 65535⟩ true).lo, .int .i64 (mkRow 1 ⟨0, 0⟩ ⟨0, 0⟩ ⟨0, 0, 65535⟩ true).hi, .bool (mkRow 1 ⟨0, 0⟩ ⟨0, 0⟩ ⟨0, 0, 65535⟩ true).allow] rfl rfl (cell_new_list _ [.int .i64 (mkRow 1 ⟨0, 0⟩ ⟨0, 0⟩ ⟨0, 0, 65535⟩ true).sb, .int .i64 (mkRow 1 ⟨0, 0⟩ ⟨0, 0⟩ ⟨0, 0, 65535⟩ true).sn, .int .i64 (mkRow 1 ⟨0, 0⟩ ⟨0, 0⟩ ⟨0, 0, 65535⟩ true).db, .int .i64 (mkRow 1 ⟨0, 0⟩ ⟨0, 0⟩ ⟨0, 0, 65535⟩ true).dn, .int .i64 (mkRow 1 ⟨0, 0⟩ ⟨0, 0⟩ ⟨0, 0, 65535⟩ true).proto, .int .i64 (mkRow 1 ⟨0, 0⟩ ⟨0, 0⟩ ⟨0, 0, 65535⟩ true).lo, .int .i64 (mkRow 1 ⟨0, 0⟩ ⟨0, 0⟩ ⟨0, 0, 65535⟩ true).hi, .bool (mkRow 1 ⟨0, 0⟩ ⟨0, 0⟩ ⟨0, 0, 65535⟩ true).allow] _) (encRow_one (mkRow 1 ⟨0, 0⟩ ⟨0, 0⟩ ⟨0, 0, 65535⟩ true)) (by unfold maxLen; omega) (by omega) (by have := HW7.out.size; simp; omega) ?_; intro v' w8 hown8 hg8 _; obtain ⟨a8, c8, rfl, _, hr8⟩ := own_rows_up (own_snoc (enc := encRow) (x := lastRow) hown8) (by simp; omega) hWs; have HR8 := hid hr8; have HB8 := hid (own_below (HW7.out.alloc HW7.out.size _) (by have := HW7.out.size; simp; omega) (HO7.out.alloc _) hg8); clear hr8 hown8 hg8))
      go_ret
      exact ⟨⟨a8, c8, L, by rw [List.length_append]; rfl, HTT.out, HR8.out⟩, HBa.out.trans (HB8.out.mono hWs)⟩
end Go.Proofs.YtmkjlhplgcifiaaGreat
