/-
  The order of pods, policies, rules, peers and ports is of no matter (over plain data).
  palisadekeep: the law Shuffled, walked, whatever the raw cluster and packet.
-/
import Derived.Test.YtmkjlhplgcifiaaGreatQ33
import Derived.Deep.CutRange
import Derived.Deep.CutBlock
namespace Go.Proofs.YtmkjlhplgcifiaaGreat
open Go.ChangeShapes Go.WideShapes Go.ChangeAt Go.RowKit
attribute [local simp] World.cell?_grow
attribute [local go_sem] World.cell?_grow
attribute [local simp] World.cell?_alloc_there
attribute [local go_sem] World.cell?_alloc_there
attribute [local go_sem] eqg_blk std_blk eqg_pod std_pod eqg_sel std_sel eqg_prt std_prt
attribute [local go_sem ↓] eql_blk eql_sel neq_sel eql_prt eql_pod
attribute [local go_sem ↓] met_in1 met_in2 met_re1 met_re2
attribute [local go_sem ↓] met_has1 met_has2
attribute [local go_sem ↓] met_bl1 met_bl2
attribute [local go_sem] eqg_row std_row
attribute [local go_sem ↓] neq_row
set_option linter.unusedVariables false
set_option linter.unusedSimpArgs false

def shPol (q : DPol) : DPol := ⟨q.space, q.need, q.ban, q.ways, turn q.outs, turn q.ins⟩
def shClu (c : DClu) : DClu := ⟨c.pods.reverse, (c.pols.map shPol).reverse⟩
theorem podAt_rev {l : List DPod} (h : l.Pairwise fun a b => a.ip ≠ b.ip) (ip : Int) : podAt l.reverse ip = podAt l ip := by
  have huniq : ∀ p ∈ l, ∀ q ∈ l, p.ip = q.ip → p = q := by
    intro p hp q hq he
    obtain ⟨i, hi, rfl⟩ := List.getElem_of_mem hp
    obtain ⟨j, hj, rfl⟩ := List.getElem_of_mem hq
    rcases Nat.lt_trichotomy i j with h1 | h1 | h1
    · exact absurd he (List.pairwise_iff_getElem.1 h i j hi hj h1)
    · subst h1; rfl
    · exact absurd he.symm (List.pairwise_iff_getElem.1 h j i hj hi h1)
  unfold podAt
  cases h1 : l.find? fun p => decide (p.ip = ip) with
  | none =>
    rw [List.find?_eq_none] at h1 ⊢
    intro x hx
    exact h1 x (List.mem_reverse.1 hx)
  | some p =>
    have hp : p.ip = ip := by simpa using List.find?_some h1
    have hm := List.mem_of_find?_eq_some h1
    cases h2 : l.reverse.find? fun p => decide (p.ip = ip) with
    | none =>
      rw [List.find?_eq_none] at h2
      have := h2 p (List.mem_reverse.2 hm)
      simp [hp] at this
    | some q =>
      have hq : q.ip = ip := by simpa using List.find?_some h2
      have hm2 := List.mem_reverse.1 (List.mem_of_find?_eq_some h2)
      rw [huniq q hm2 p hm (by rw [hp, hq])]
theorem peerHas_same {l l' : List DPod} {ip : Int} (h : podAt l ip = podAt l' ip) (space : Int) (x : DPeer) : peerHas l space ip x = peerHas l' space ip x := by
  unfold peerHas; rw [h]
theorem eoa_rev {α : Type} (l : List α) (f : α → Bool) : eoa l.reverse f = eoa l f := by simp [eoa]
theorem any_turn (l : List DRule) (f : DRule → Bool) : (turn l).any f = l.any fun r => f (turnR r) := by
  simp only [turn, List.any_reverse, List.any_map]; rfl
theorem ruleFits_turn {l l' : List DPod} (space : Int) (k : DPkt) {far : Int} (h : podAt l far = podAt l' far) (r : DRule) : ruleFits l space k far (turnR r) = ruleFits l' space k far r := by
  have e : peerHas l space far = peerHas l' space far := funext (peerHas_same h space)
  simp only [ruleFits, turnR, eoa_rev, e]
theorem sh_may {c : DClu} (hc : cluOk c) (way : Int) (k : DPkt) (near far : Int) : may (shClu c) way k near far = may c way k near far := by
  have h1 := podAt_rev hc.1.2 near
  have h2 := podAt_rev hc.1.2 far
  have hl : ∀ q, letsGo (shClu c).pods way k far (shPol q) = letsGo c.pods way k far q := by
    intro q
    have e : rulesOf (shPol q) way = turn (rulesOf q way) := by unfold rulesOf shPol; split <;> rfl
    rw [letsGo, letsGo, e, any_turn]
    congr 1
    funext r
    exact ruleFits_turn _ k h2 r
  unfold may
  rw [show podAt (shClu c).pods near = podAt c.pods near from h1]
  cases podAt c.pods near with
  | none => rfl
  | some p =>
    have ea : ∀ q, applies way p (shPol q) = applies way p q := fun q => rfl
    simp only [shClu, List.all_reverse, List.any_reverse, List.all_map, List.any_map]
    have e1 : ((fun q => !applies way p q) ∘ shPol) = fun q => !applies way p q := funext fun q => by simp [ea]
    have e2 : ((fun q => applies way p q && letsGo c.pods.reverse way k far q) ∘ shPol) = fun q => applies way p q && letsGo c.pods way k far q := funext fun q => by
      show (applies way p (shPol q) && letsGo c.pods.reverse way k far (shPol q)) = _
      rw [ea, show letsGo c.pods.reverse way k far (shPol q) = letsGo c.pods way k far q from hl q]
    rw [e1, e2]
theorem rulesOk_turn (l : List DRule) (way : Bool) : rulesOk (turn l) way = rulesOk l way := by
  have e : (rulOk ∘ turnR) = rulOk := funext fun r => by simp [rulOk, turnR, few]
  simp only [rulesOk, few, turn, List.length_reverse, List.length_map, List.all_reverse, List.all_map, e]
theorem polOk_sh (q : DPol) : polOk (shPol q) = polOk q := by
  simp only [polOk, shPol, rulesOk_turn]
  rfl
theorem podsGood_ok {l : List DPod} (hl : l.length ≤ 8) (h : podsOk l) : podsGood l := by
  refine ⟨hl, fun i => ?_⟩
  unfold podGood
  cases hi : l[i]? with
  | none => rfl
  | some p =>
    obtain ⟨hlt, rfl⟩ := List.getElem?_eq_some_iff.1 hi
    simp only [Bool.and_eq_true, List.all_eq_true, decide_eq_true_eq]
    refine ⟨h.1 _ (List.getElem_mem hlt), fun q hq => ?_⟩
    obtain ⟨j, hj, rfl⟩ := List.getElem_of_mem hq
    rw [List.length_take] at hj
    rw [List.getElem_take]
    exact List.pairwise_iff_getElem.1 h.2 j i (by omega) hlt (by omega)
theorem sh_right {c : DClu} (hc : cluOk c) (h1 : c.pods.length ≤ 8) (h2 : c.pols.length ≤ 4) : right (shClu c) = (0, 0) := by
  refine right_good (podsGood_ok (by simp [shClu]; exact h1) ⟨fun p hp => hc.1.1 p (List.mem_reverse.1 hp), ?_⟩) (by simp [shClu]; exact h2) fun q hq => ?_
  · rw [shClu, List.pairwise_reverse]
    exact List.pairwise_iff_getElem.2 fun i j hi hj hij => (List.pairwise_iff_getElem.1 hc.1.2 i j hi hj hij).symm
  · simp only [shClu, List.mem_reverse, List.mem_map] at hq
    obtain ⟨x, hx, rfl⟩ := hq
    rw [polOk_sh]
    exact hc.2 x hx
end Go.Proofs.YtmkjlhplgcifiaaGreat
namespace Go.Proofs.YtmkjlhplgcifiaaGreat
open Go.ChangeShapes Go.WideShapes Go.ChangeAt Go.RowKit
attribute [local simp] World.cell?_grow
attribute [local go_sem] World.cell?_grow
attribute [local simp] World.cell?_alloc_there
attribute [local go_sem] World.cell?_alloc_there
attribute [local go_sem] eqg_blk std_blk eqg_pod std_pod eqg_sel std_sel eqg_prt std_prt
attribute [local go_sem ↓] eql_blk eql_sel neq_sel eql_prt eql_pod
attribute [local go_sem ↓] met_in1 met_in2 met_re1 met_re2
attribute [local go_sem ↓] met_has1 met_has2
attribute [local go_sem ↓] met_bl1 met_bl2
attribute [local go_sem] eqg_row std_row
attribute [local go_sem ↓] neq_row
set_option linter.unusedVariables false
set_option linter.unusedSimpArgs false

abbrev UpGPols := UpG 59 6 encPol NPol
theorem upGPols_done {base : Nat} {G : Nat → Bool} {w : World} {v : Value} {l : List RPol} (h : UpGPols base G w v l) (hG : ∀ g, v.ownBlock = some g → G g = false) (hl : l.length * 80 ≤ 140737488351232) : ∃ a c, v = .slice a (l.map (·.d)).length c ∧ (l.map (·.d)).length ≤ c ∧ rdPols w.heap.size (hide w G) a (l.map (·.d)) :=
  UpG.done NPol.mono (fun _ => rfl) (by decide) h hG hl fun B w b o y hN hc => by
    obtain ⟨⟨oa, oc, ho, hro⟩, ia, ic, hi, hri⟩ := hN
    exact ⟨hc 0 _ rfl, hc 1 _ rfl, hc 2 _ rfl, hc 3 _ rfl, ⟨oa, oc, by rw [← ho]; exact hc 4 _ rfl, hro⟩, ia, ic, by rw [← hi]; exact hc 5 _ rfl, hri⟩
def one (xb : Nat) : Nat → Bool := fun b => decide (b = xb)
theorem one_true (xb : Nat) : one xb xb = true := by simp [one]
theorem one_false {xb b : Nat} (h : b ≠ xb) : one xb b = false := by simp [one, h]
theorem mid_old {G : Nat → Bool} {n m b : Nat} (h : b < n) : mid G n m b = G b := by simp [mid, h]
theorem sub_into {w w' : World} {G : Nat → Bool} (hb : Below w.heap.size w w') (hG : ∀ b, b < w.heap.size → G b = false) : Sub w (hide w' G) := fun b o u hu => by
  have hl := cell_lt hu
  rw [hide_cell w' G b o (hG b hl), hb.cell (p := ⟨b, o, none⟩) hl]
  exact hu
theorem sub_turned {xb Ms n yb : Nat} {w w' : World} {v : Value} (hM : Ms ≤ yb) (hn : yb < n) (hs : ∀ b, b < w.heap.size → b ≠ yb → w'.heap[b]? = w.heap[b]?) (hv : ∀ g, v.ownBlock = some g → Ms ≤ g ∧ g < n) :
    Sub (hide w (mid (mid (one xb) Ms n) n n)) (hide w' (orOwn (mid (one xb) Ms Ms) v)) :=
  Sub.hide fun b hb hG => by
    rcases mid_false.1 hG with ⟨h1, h2⟩ | ⟨h1, h2⟩
    · rcases mid_false.1 h2 with ⟨h3, h4⟩ | ⟨h3, h4⟩
      · exact ⟨orOwn_false.2 ⟨mid_false.2 (.inl ⟨h3, h4⟩), fun e => by have := hv b e; omega⟩, hs b hb (by omega)⟩
      · omega
    · exact ⟨orOwn_false.2 ⟨mid_false.2 (.inr ⟨by omega, by omega⟩), fun e => by have := hv b e; omega⟩, hs b hb (by omega)⟩

set_option maxRecDepth 100000 in
set_option maxHeartbeats 8000000 in
theorem shuffled_any (c : DClu) (k : DPkt) (pa qa : Option Addr) (pc qc : Nat) (w : World) (hp : rdPods w.heap.size w pa c.pods) (hq : rdPols w.heap.size w qa c.pols) (hi : iClu c) (hk : iPkt k) :
    Calls Tryz.prog 6 #[.agg #[.slice pa c.pods.length pc, .slice qa c.pols.length qc], .agg #[.int .i64 k.src, .int .i64 k.dst, .int .i64 k.proto, .int .i64 k.port]] w fun e w' => e = .returned (.bool true) ∧ Below w.heap.size w w' := by
  have HP := hid hp
  have HQ := hid hq
  have HI := hid hi
  obtain ⟨k0, k1, k2, k3⟩ := hk
  clear hp hq hi
  go_enter Tryz.func6, Tryz.ntmps6
  go_wp2_with fail
  generalize hW : (w.alloc (Obj.cells #[.slice pa c.pods.length pc, .slice qa c.pols.length qc] 28)).alloc (Obj.cells #[.int .i64 k.src, .int .i64 k.dst, .int .i64 k.proto, .int .i64 k.port] 30) = W
  have hsW : W.heap.size = w.heap.size + 2 := by rw [← hW]; simp
  have HBW := hid (show Below w.heap.size w W from by rw [← hW]; exact (by repeat (first | exact Below.refl _ _ | assumption | apply Ext.alloc | apply Ext.drewN | apply Ext.drew | refine Ext.trans ?_ (by assumption))))
  have c0 : W.cell? ⟨w.heap.size, 0, none⟩ = some (.slice pa c.pods.length pc) := by rw [← hW]; simp [go_sem]
  have c1 : W.cell? ⟨w.heap.size, 1, none⟩ = some (.slice qa c.pols.length qc) := by rw [← hW]; simp [go_sem]
  have p0 : W.cell? ⟨w.heap.size + 1, 0, none⟩ = some (.int .i64 k.src) := by rw [← hW]; simp [go_sem]
  have p1 : W.cell? ⟨w.heap.size + 1, 1, none⟩ = some (.int .i64 k.dst) := by rw [← hW]; simp [go_sem]
  have p2 : W.cell? ⟨w.heap.size + 1, 2, none⟩ = some (.int .i64 k.proto) := by rw [← hW]; simp [go_sem]
  have p3 : W.cell? ⟨w.heap.size + 1, 3, none⟩ = some (.int .i64 k.port) := by rw [← hW]; simp [go_sem]
  clear hW
  refine (awake_any W).mono ?_
  rintro e wA ⟨rfl, hbA⟩
  have HBA := hid (Ext.trans HBW.out hbA)
  have hsA := hbA.size
  have d0 := cell_to c0 hbA
  have d1 := cell_to c1 hbA
  have e0 := cell_to p0 hbA
  have e1 := cell_to p1 hbA
  have e2 := cell_to p2 hbA
  have e3 := cell_to p3 hbA
  clear hbA c0 c1 p0 p1 p2 p3
  go_wp2_with fail
  refine (mkClu_any c pa qa pc qc wA (rdPods.to HP.out HBA.out) (rdPols.to HQ.out HBA.out) HI.out).mono ?_
  rintro e wB ⟨⟨v, v', rfl, hcu⟩, hbB⟩
  obtain ⟨a, n, a', n', rfl, rfl, hn, hrp, hrq⟩ := hcu.get
  have hR := mkClu_right c
  have hips := pods_ips (mkPods_good c.pods)
  obtain ⟨C, hC⟩ : ∃ C, C = mkClu c := ⟨_, rfl⟩
  have hips : ∀ p ∈ (mkClu c).pods, 0 ≤ p.ip ∧ p.ip ≤ 4294967295 := hips
  have hpl : (mkClu c).pods.length ≤ 8 := (mkPods_good c.pods).1
  have hql : (mkClu c).pols.length ≤ 4 := by simp [mkClu]; omega
  rw [← hC] at hn hrp hrq hR hips hpl hql
  simp only [← hC]
  have HR := hid (show (right C).1 = 0 by rw [hR])
  have HC := hid (right_zero HR.out)
  have HIP := hid hips
  have HRP := hid hrp
  have HRQ := hid hrq
  have HBB := hid (Ext.trans HBA.out hbB)
  have hsB := hbB.size
  have f0 := cell_to e0 hbB
  have f1 := cell_to e1 hbB
  have f2 := cell_to e2 hbB
  have f3 := cell_to e3 hbB
  clear hbB hcu d0 d1 e0 e1 e2 e3 hR hips hrp hrq hC
  go_wp2_with fail
  generalize hX : wB.alloc (Obj.cells #[.slice a C.pods.length n, .slice a' C.pols.length n'] 28) = X
  have hsX : X.heap.size = wB.heap.size + 1 := by rw [← hX]; simp
  have HBX := hid (show Below wB.heap.size wB X from by rw [← hX]; exact (by repeat (first | exact Below.refl _ _ | assumption | apply Ext.alloc | apply Ext.drewN | apply Ext.drew | refine Ext.trans ?_ (by assumption))))
  have x0 : X.cell? ⟨wB.heap.size, 0, none⟩ = some (.slice a C.pods.length n) := by rw [← hX]; simp [go_sem]
  have x1 : X.cell? ⟨wB.heap.size, 1, none⟩ = some (.slice a' C.pols.length n') := by rw [← hX]; simp [go_sem]
  clear hX f0 f1 f2 f3
  refine (mkPkt_any C.pods k a a' n C.pols.length n' X (rdPods.to HRP.out HBX.out) HIP.out k0 k1 k2 k3).mono ?_
  rintro e wC ⟨⟨x, rfl, hx⟩, hbC⟩
  have HX := hid hx
  have hsC := hbC.size
  have y0 := cell_to x0 hbC
  have y1 := cell_to x1 hbC
  have HBC := hid (Ext.trans HBX.out hbC)
  clear hbC x0 x1 hx k0 k1 k2 k3
  go_upto_block 0 with fail
  have q0 : ((wC.alloc (.cells #[.int .i64 x.src, .int .i64 x.dst, .int .i64 x.proto, .int .i64 x.port] 30)).alloc (.cells #[.slice none 0 0, .slice none 0 0] 28)).cell? ⟨wC.heap.size, 0, none⟩ = some (.int .i64 x.src) := by simp [go_sem]
  have q1 : ((wC.alloc (.cells #[.int .i64 x.src, .int .i64 x.dst, .int .i64 x.proto, .int .i64 x.port] 30)).alloc (.cells #[.slice none 0 0, .slice none 0 0] 28)).cell? ⟨wC.heap.size, 1, none⟩ = some (.int .i64 x.dst) := by simp [go_sem]
  have q2 : ((wC.alloc (.cells #[.int .i64 x.src, .int .i64 x.dst, .int .i64 x.proto, .int .i64 x.port] 30)).alloc (.cells #[.slice none 0 0, .slice none 0 0] 28)).cell? ⟨wC.heap.size, 2, none⟩ = some (.int .i64 x.proto) := by simp [go_sem]
  have q3 : ((wC.alloc (.cells #[.int .i64 x.src, .int .i64 x.dst, .int .i64 x.proto, .int .i64 x.port] 30)).alloc (.cells #[.slice none 0 0, .slice none 0 0] 28)).cell? ⟨wC.heap.size, 3, none⟩ = some (.int .i64 x.port) := by simp [go_sem]
  have hbY : Below wC.heap.size wC ((wC.alloc (.cells #[.int .i64 x.src, .int .i64 x.dst, .int .i64 x.proto, .int .i64 x.port] 30)).alloc (.cells #[.slice none 0 0, .slice none 0 0] 28)) := (by repeat (first | exact Below.refl _ _ | assumption | apply Ext.alloc | apply Ext.drewN | apply Ext.drew | refine Ext.trans ?_ (by assumption)))
  have hr2 : ((wC.alloc (.cells #[.int .i64 x.src, .int .i64 x.dst, .int .i64 x.proto, .int .i64 x.port] 30)).alloc (.cells #[.slice none 0 0, .slice none 0 0] 28)).heap[wC.heap.size + 1]? = some (.cells #[.slice none 0 0, .slice none 0 0] 28 (0, 0)) := by
    have := new_heap (wC.alloc (.cells #[.int .i64 x.src, .int .i64 x.dst, .int .i64 x.proto, .int .i64 x.port] 30)) (.cells #[.slice none 0 0, .slice none 0 0] 28)
    simp only [World.size_alloc] at this
    exact this
  have hsY : wC.heap.size + 1 < ((wC.alloc (.cells #[.int .i64 x.src, .int .i64 x.dst, .int .i64 x.proto, .int .i64 x.port] 30)).alloc (.cells #[.slice none 0 0, .slice none 0 0] 28)).heap.size := by simp only [World.size_alloc]; omega
  generalize ((wC.alloc (.cells #[.int .i64 x.src, .int .i64 x.dst, .int .i64 x.proto, .int .i64 x.port] 30)).alloc (.cells #[.slice none 0 0, .slice none 0 0] 28)) = Y at q0 q1 q2 q3 hbY hr2 hsY ⊢
  have hxC : wC.heap.size < wC.heap.size + 1 := by omega
  generalize wC.heap.size + 1 = xb at *
  have z0 := cell_to y0 hbY
  have z1 := cell_to y1 hbY
  have HBY := hid (Ext.trans HBC.out hbY)
  have HR2 := hid hr2
  clear hbY hr2 y0 y1
  go_cut [] from 31 to 44 (fun wx => ∃ v, wx.heap[xb]? = some (.cells #[v, .slice none 0 0] 28 (0, 0)) ∧ UpPods Y.heap.size wx v C.pods.reverse ∧ Y.grownBy wx (some xb))
  case first =>
    obtain ⟨ip0, hip, ipz0, ipz1, ipz2⟩ := info_parts info_pod
    go_wp2_with fail
    go_loopw [9] (fun i wr => ∃ (j : Nat) (v : Value) (ys : List DPod), j ≤ C.pods.length ∧ i = .int .i64 ((j : Int) - 1) ∧ ys = (C.pods.drop j).reverse ∧ wr.heap[xb]? = some (.cells #[v, .slice none 0 0] 28 (0, 0)) ∧ UpPods Y.heap.size wr v ys ∧ Y.grownBy wr (some xb)) (fun i _ => (intOf i + 1).toNat)
    case atStart => exact ⟨C.pods.length, .slice none 0 0, [], Nat.le_refl _, rfl, by simp, HR2.out, Up.nil _ _, gb_refl _ _⟩
    case round =>
      obtain ⟨j, v, ys, hj, rfl, hys, hrb, hup, hg⟩ := hrel
      obtain ⟨wb, hwb⟩ : ∃ wb, wb = wr := ⟨_, rfl⟩
      subst hwb
      have hYl : ys.length ≤ C.pods.length := by rw [hys]; simp
      have HYS := hid hys
      have HRB := hid hrb
      have HU := hid hup
      have HG := hid hg
      have hsb := hg.size
      have g0 : wb.cell? ⟨xb, 0, none⟩ = some v := (blk_cell hrb 0).trans rfl
      have gf := blk_frozen hrb
      have f0 : wb.cell? ⟨wB.heap.size, 0, none⟩ = some (.slice a C.pods.length n) := hg.cell z0 (fun e => by have := Option.some.inj e; simp only at this; omega)
      have HBw := hid (show Below wB.heap.size wB wb from HBY.out.trans (gb_low hg (by omega) (by omega)))
      clear hys hrb hup hg
      by_cases hltj : 1 ≤ j
      · obtain ⟨t, rfl⟩ : ∃ t, j = t + 1 := ⟨j - 1, by omega⟩
        rw [show (((t + 1 : Nat) : Int) - 1) = (t : Int) by omega]
        obtain ⟨p, hpj⟩ : ∃ p, C.pods[t]? = some p := ⟨C.pods[t]'(by omega), by simp⟩
        have HPJ := hid hpj
        obtain ⟨b, off, rfl, hb, p0, p1, p2, p3⟩ := HRP.out.2 t p hpj
        have z3 : (t : Int) < (C.pods.length : Int) := by omega
        have z4 : (0 : Int) ≤ (t : Int) := by omega
        have r0 := cell_to p0 HBw.out
        have r1 := cell_to p1 HBw.out
        have r2 := cell_to p2 HBw.out
        have r3 := cell_to p3 HBw.out
        have HVB := hid (show ∀ g, v.ownBlock = some g → Y.heap.size ≤ g from fun g hg => (HU.out.lt g hg).1)
        have HVL := hid (show ∀ g, v.ownBlock = some g → g < wb.heap.size from fun g hg => (HU.out.lt g hg).2)
        clear hpj p0 p1 p2 p3
        go_wp2_with fail
        refine wp_region_held_tail (S := (fun w' => w'.cell? ⟨xb, 0, none⟩ = some v ∧ w'.cell? ⟨wB.heap.size, 0, none⟩ = some (.slice (some ⟨b, off, none⟩) C.pods.length n) ∧ w'.cell? ⟨b, off + t * 4, none⟩ = some (.int .i64 p.host) ∧ w'.cell? ⟨b, off + t * 4 + 1, none⟩ = some (.int .i64 p.ip) ∧ w'.cell? ⟨b, off + t * 4 + 2, none⟩ = some (.int .i64 p.space) ∧ w'.cell? ⟨b, off + t * 4 + 3, none⟩ = some (.int .i64 p.labels))) 9 (by kernel_rfl) (by kernel_rfl) ?_
        simp only [takes_9, drops_9]
        have hS0 : (fun w' => w'.cell? ⟨xb, 0, none⟩ = some v ∧ w'.cell? ⟨wB.heap.size, 0, none⟩ = some (.slice (some ⟨b, off, none⟩) C.pods.length n) ∧ w'.cell? ⟨b, off + t * 4, none⟩ = some (.int .i64 p.host) ∧ w'.cell? ⟨b, off + t * 4 + 1, none⟩ = some (.int .i64 p.ip) ∧ w'.cell? ⟨b, off + t * 4 + 2, none⟩ = some (.int .i64 p.space) ∧ w'.cell? ⟨b, off + t * 4 + 3, none⟩ = some (.int .i64 p.labels)) wb.drew := ⟨g0, f0, r0, r1, r2, r3⟩
        refine htake_0 (.pointer (some ⟨xb, 0, none⟩)) (by kernel_rfl) (by kernel_rfl) (by kernel_rfl) rfl (fun _ _ _ h => h) (fun w' hSw => by (obtain ⟨s0, s1, s2, s3, s4, s5⟩ := hSw; go_simp)) hS0 ?_
        try simp only [Act.put, List.setIfInBounds_toArray, List.set_cons_zero, List.set_cons_succ]
        refine htake_1 (v) (by kernel_rfl) (by kernel_rfl) (by kernel_rfl) rfl (fun _ _ _ h => h) (fun w' hSw => by (obtain ⟨s0, s1, s2, s3, s4, s5⟩ := hSw; go_simp)) hS0 ?_
        try simp only [Act.put, List.setIfInBounds_toArray, List.set_cons_zero, List.set_cons_succ]
        refine htake_2 (.pointer (some ⟨wB.heap.size, 0, none⟩)) (by kernel_rfl) (by kernel_rfl) (by kernel_rfl) rfl (fun _ _ _ h => h) (fun w' hSw => by (obtain ⟨s0, s1, s2, s3, s4, s5⟩ := hSw; go_simp)) hS0 ?_
        try simp only [Act.put, List.setIfInBounds_toArray, List.set_cons_zero, List.set_cons_succ]
        refine htake_3 (.slice (some ⟨b, off, none⟩) C.pods.length n) (by kernel_rfl) (by kernel_rfl) (by kernel_rfl) rfl (fun _ _ _ h => h) (fun w' hSw => by (obtain ⟨s0, s1, s2, s3, s4, s5⟩ := hSw; go_simp)) hS0 ?_
        try simp only [Act.put, List.setIfInBounds_toArray, List.set_cons_zero, List.set_cons_succ]
        refine htake_4 (.int .i64 t) (by kernel_rfl) (by kernel_rfl) (by kernel_rfl) rfl (fun _ _ _ h => h) (fun w' hSw => by (obtain ⟨s0, s1, s2, s3, s4, s5⟩ := hSw; go_simp)) hS0 ?_
        try simp only [Act.put, List.setIfInBounds_toArray, List.set_cons_zero, List.set_cons_succ]
        refine htake_5 (.pointer (some ⟨b, off + t * 4, none⟩)) (by kernel_rfl) (by kernel_rfl) (by kernel_rfl) rfl (fun _ _ _ h => h) (fun w' hSw => by (obtain ⟨s0, s1, s2, s3, s4, s5⟩ := hSw; go_simp)) hS0 ?_
        try simp only [Act.put, List.setIfInBounds_toArray, List.set_cons_zero, List.set_cons_succ]
        refine htake_6 (.agg #[.int .i64 p.host, .int .i64 p.ip, .int .i64 p.space, .int .i64 p.labels]) (by kernel_rfl) (by kernel_rfl) (by kernel_rfl) rfl (fun _ _ _ h => h) (fun w' hSw => by (obtain ⟨s0, s1, s2, s3, s4, s5⟩ := hSw; go_simp)) hS0 ?_
        try simp only [Act.put, List.setIfInBounds_toArray, List.set_cons_zero, List.set_cons_succ]
        refine hone_7 (by kernel_rfl) rfl (fun K hK => ?_)
        go_simp
        have hBA : Below wb.heap.size wb (wb.alloc (.cells #[.int .i64 p.host, .int .i64 p.ip, .int .i64 p.space, .int .i64 p.labels] 54)).drew := ((Below.refl _ wb).alloc (Nat.le_refl _) _).drew
        have HUA := hid (HU.out.grow NNo.mono hBA)
        have HBA := hid hBA
        refine hK _ _ ⟨cell_past (w := wb) g0, cell_past (w := wb) f0, cell_past (w := wb) r0, cell_past (w := wb) r1, cell_past (w := wb) r2, cell_past (w := wb) r3⟩ ?_
        try simp only [Act.put, List.setIfInBounds_toArray, List.set_cons_zero, List.set_cons_succ]
        clear hK hBA
        refine hone_8 (by kernel_rfl) rfl (fun K hK => ?_)
        refine wp_append_at _ (.tmp 36) (.tmp 42) 25 rfl Y.heap.size 54 ip0 _ 4 32 Tryz.underlying25 hip ipz0 ipz1 ipz2 rfl (by decide) v _ _ rfl HUA.out.1 ⟨wb.heap.size, 0, none⟩ 1 1 (encPod p) rfl rfl (cell_new_list wb.drew (encPod p) _) (by intro u hu; simp only [encPod, List.mem_cons, List.not_mem_nil, or_false] at hu; rcases hu with rfl | rfl | rfl | rfl <;> rfl) (by unfold maxLen; omega) (by omega) (by show Y.heap.size ≤ (wb.alloc _).heap.size; rw [World.size_alloc]; omega) ?_
        intro v' w6 hown6 hg6 hat6
        obtain ⟨a6, c6, rfl, _, _⟩ := own_slice hown6
        have t6 : w6.heap[xb]? = some (.cells #[v, .slice none 0 0] 28 (0, 0)) := (hg6.block xb (by show xb < (wb.alloc _).heap.size; rw [World.size_alloc]; omega) (fun e => by have := HVB.out _ e.symm; omega)).trans ((Below.heap_alloc _ _ _ (by omega)).trans HRB.out)
        have HO6 := hid hown6
        have HG6 := hid hg6
        have HA6 := hid hat6
        have t0 : w6.cell? ⟨xb, 0, none⟩ = some v := (blk_cell t6 0).trans rfl
        have tf := blk_frozen t6
        have HT := hid t6
        have hS6 := hg6.cell (cell_past (w := wb) f0) (fun e => by have := HVB.out _ e.symm; simp only at this; omega)
        have n0 := hg6.cell (cell_past (w := wb) r0) (fun e => by have := HVB.out _ e.symm; simp only at this; omega)
        have n1 := hg6.cell (cell_past (w := wb) r1) (fun e => by have := HVB.out _ e.symm; simp only at this; omega)
        have n2 := hg6.cell (cell_past (w := wb) r2) (fun e => by have := HVB.out _ e.symm; simp only at this; omega)
        have n3 := hg6.cell (cell_past (w := wb) r3) (fun e => by have := HVB.out _ e.symm; simp only at this; omega)
        clear hown6 hg6 hat6 t6
        refine hK _ _ ⟨t0, hS6, n0, n1, n2, n3⟩ ?_
        refine wpAnyH_done (by kernel_rfl) ?_ _
        show wpList _ _ _ _ _ _
        try simp only [Act.put, List.setIfInBounds_toArray, List.set_cons_zero, List.set_cons_succ]
        clear hK hS0 hS6 n0 n1 n2 n3 r0 r1 r2 r3 f0 g0
        go_wp2
        refine ⟨⟨t, _, ys ++ [p], by omega, rfl, by rw [HYS.out]; exact (rev_step' HPJ.out).symm, (set_blk HT.out 0 _).trans rfl, ?_, gb_set (gb_row (gb_below HG.out HBA.out) HG6.out HVB.out) 0 _⟩, by simp [intOf]⟩
        have g3 := Up.app NNo.mono (m := wb.heap.size) HUA.out hsb (fun g hg => HVL.out g hg) trivial HO6.out HG6.out HA6.out
        exact g3.set NNo.mono ⟨xb, 0, none⟩ _ (by show xb < Y.heap.size; omega)
      · have hj0 : j = 0 := by omega
        subst hj0
        rw [show (((0 : Nat) : Int) - 1) = -1 from rfl]
        go_wp2
        go_meet
        exact ⟨v, HRB.out, by have h := HU.out; rw [HYS.out] at h; exact h, HG.out⟩
  case rest =>
    obtain ⟨v, hxb, hup, hg⟩ := hcut
    obtain ⟨M, hM⟩ : ∃ M, M = wc := ⟨_, rfl⟩
    subst hM
    have HUP := hid hup
    have HXM := hid hxb
    have HGM := hid hg
    have hsM := hg.size
    have HBM := hid (show Below wB.heap.size wB M from HBY.out.trans (gb_low hg (by omega) (by omega)))
    have ne1 : ∀ b, b < xb → M.heap[b]? = Y.heap[b]? := fun b hb => hg.block b (by omega) (fun e => by cases e; omega)
    have b0 := hg.cell z0 (fun e => by have := Option.some.inj e; simp only at this; omega)
    have b1 := hg.cell z1 (fun e => by have := Option.some.inj e; simp only at this; omega)
    have p0 := hg.cell q0 (fun e => by have := Option.some.inj e; simp only at this; omega)
    have p1 := hg.cell q1 (fun e => by have := Option.some.inj e; simp only at this; omega)
    have p2 := hg.cell q2 (fun e => by have := Option.some.inj e; simp only at this; omega)
    have p3 := hg.cell q3 (fun e => by have := Option.some.inj e; simp only at this; omega)
    have HVM := hid (show ∀ g, v.ownBlock = some g → Y.heap.size ≤ g ∧ g < M.heap.size from fun g h => hup.lt g h)
    clear hxb hup hg q0 q1 q2 q3 z0 z1 ne1
    obtain ⟨iq0, hiq, iqz0, iqz1, iqz2⟩ := info_parts info_pol
    go_wp2_with fail
    go_loopw [10] (fun i wr => ∃ (j : Nat) (v' : Value) (ys : List RPol), j ≤ C.pols.length ∧ i = .int .i64 ((j : Int) - 1) ∧ ys.map (·.d) = ((C.pols.drop j).map shPol).reverse ∧ wr.heap[xb]? = some (.cells #[v, v'] 28 (0, 0)) ∧ UpGPols M.heap.size (mid (one xb) M.heap.size M.heap.size) wr v' ys ∧ M.grownBy wr (some xb)) (fun i _ => (intOf i + 1).toNat)
    case atStart => exact ⟨C.pols.length, .slice none 0 0, [], Nat.le_refl _, rfl, by simp, HXM.out, UpG.nil _ _ _, gb_refl _ _⟩
    case round =>
      obtain ⟨j, v', ys, hj, rfl, hys, hrb, hup, hg⟩ := hrel
      obtain ⟨wa, hwa⟩ : ∃ wa, wa = wr := ⟨_, rfl⟩
      subst hwa
      have hYl : ys.length ≤ C.pols.length := by have h := congrArg List.length hys; simp at h; omega
      have HYS := hid hys
      have HRB := hid hrb
      have HU := hid hup
      have HG := hid hg
      have hsb := hg.size
      have g0 : wa.cell? ⟨xb, 0, none⟩ = some v := (blk_cell hrb 0).trans rfl
      have g1 : wa.cell? ⟨xb, 1, none⟩ = some v' := (blk_cell hrb 1).trans rfl
      have gf := blk_frozen hrb
      have f1 : wa.cell? ⟨wB.heap.size, 1, none⟩ = some (.slice a' C.pols.length n') := hg.cell b1 (fun e => by have := Option.some.inj e; simp only at this; omega)
      have HBw := hid (show Below wB.heap.size wB wa from HBM.out.trans (gb_low hg (by omega) (by omega)))
      have HVB := hid (show ∀ g, v'.ownBlock = some g → M.heap.size ≤ g from fun g h => (hup.lt g h).1)
      have HVL := hid (show ∀ g, v'.ownBlock = some g → g < wa.heap.size from fun g h => (hup.lt g h).2)
      by_cases hltj : 1 ≤ j
      · clear hys hrb hup hg
        obtain ⟨t, rfl⟩ : ∃ t, j = t + 1 := ⟨j - 1, by omega⟩
        rw [show (((t + 1 : Nat) : Int) - 1) = (t : Int) by omega]
        obtain ⟨q, hqj⟩ : ∃ q, C.pols[t]? = some q := ⟨C.pols[t]'(by omega), by simp⟩
        have HQJ := hid hqj
        obtain ⟨b, off, rfl, hb, e0, e1, e2, e3, ⟨oa, oc, e4, hro⟩, ia, ic, e5, hri⟩ := HRQ.out.2 t q hqj
        have z3 : (t : Int) < (C.pols.length : Int) := by omega
        have z4 : (0 : Int) ≤ (t : Int) := by omega
        have l0 := cell_to e0 HBw.out
        have l1 := cell_to e1 HBw.out
        have l2 := cell_to e2 HBw.out
        have l3 := cell_to e3 HBw.out
        have l4 := cell_to e4 HBw.out
        have l5 := cell_to e5 HBw.out
        have HRO := hid hro
        have HRI := hid hri
        clear hqj hro hri e0 e1 e2 e3 e4 e5
        go_wp2_with fail
        have nb : (wa.alloc (.cells #[.int .i64 q.space, .int .i64 q.need, .int .i64 q.ban, .int .i64 q.ways, .slice oa q.outs.length oc, .slice ia q.ins.length ic] 59)).heap[wa.heap.size]? = some (.cells #[.int .i64 q.space, .int .i64 q.need, .int .i64 q.ban, .int .i64 q.ways, .slice oa q.outs.length oc, .slice ia q.ins.length ic] 59 (0, 0)) := new_heap _ _
        have hBa : Below wa.heap.size wa (wa.alloc (.cells #[.int .i64 q.space, .int .i64 q.need, .int .i64 q.ban, .int .i64 q.ways, .slice oa q.outs.length oc, .slice ia q.ins.length ic] 59)) := (by repeat (first | exact Below.refl _ _ | assumption | apply Ext.alloc | apply Ext.drewN | apply Ext.drew | refine Ext.trans ?_ (by assumption)))
        have hsa : (wa.alloc (.cells #[.int .i64 q.space, .int .i64 q.need, .int .i64 q.ban, .int .i64 q.ways, .slice oa q.outs.length oc, .slice ia q.ins.length ic] 59)).heap.size = wa.heap.size + 1 := World.size_alloc _ _
        generalize wa.alloc (.cells #[.int .i64 q.space, .int .i64 q.need, .int .i64 q.ban, .int .i64 q.ways, .slice oa q.outs.length oc, .slice ia q.ins.length ic] 59) = A at nb hBa hsa ⊢
        have HA0 := hid nb
        have HBa := hid hBa
        have hc1 := turned_any (mid (one xb) M.heap.size A.heap.size) q.outs oa oc A (rdRules.sub (sub_into (HBw.out.trans (hBa.mono HBw.out.size)) (fun b hb => mid_false.2 (.inl ⟨by omega, one_false (by omega)⟩))) (Nat.le_trans HBw.out.size hBa.size) HRO.out)
        obtain ⟨O, hO⟩ : ∃ O, O = turn q.outs := ⟨_, rfl⟩
        rw [← hO] at hc1
        have HO := hid hO
        have HC1 := hid hc1
        clear nb hBa hO hc1 l0 l1 l2 l3 l4 l5 g0 g1 gf f1
        refine HC1.out.mono ?_
        rintro e w2 ⟨⟨a2, c2, rfl, _, hr2⟩, hb2⟩
        have hs2 := hb2.size
        have HR2 := hid hr2
        have HB2 := hid hb2
        have HY2 := hid ((hb2.block wa.heap.size (by omega)).trans HA0.out)
        have k0 := blk_cell HY2.out
        have kf := blk_frozen HY2.out
        clear hr2 hb2
        go_wp2_with fail
        have nd := set_blk HY2.out 4 (.slice a2 O.length c2)
        have nd : (w2.setCell ⟨wa.heap.size, 4, none⟩ (.slice a2 O.length c2)).heap[wa.heap.size]? = some (.cells #[.int .i64 q.space, .int .i64 q.need, .int .i64 q.ban, .int .i64 q.ways, .slice a2 O.length c2, .slice ia q.ins.length ic] 59 (0, 0)) := nd
        have hBd : Below wa.heap.size wa (w2.setCell ⟨wa.heap.size, 4, none⟩ (.slice a2 O.length c2)) := (HBa.out.trans (HB2.out.mono HBa.out.size)).setCell (Nat.le_refl _) _
        have hsd : (w2.setCell ⟨wa.heap.size, 4, none⟩ (.slice a2 O.length c2)).heap.size = w2.heap.size := World.size_setCell _ _ _
        have hSd : ∀ b, b ≠ wa.heap.size → (w2.setCell ⟨wa.heap.size, 4, none⟩ (.slice a2 O.length c2)).heap[b]? = w2.heap[b]? := fun b hb => Below.heap_setCell _ _ _ _ hb
        generalize w2.setCell ⟨wa.heap.size, 4, none⟩ (.slice a2 O.length c2) = D2 at nd hBd hsd hSd ⊢
        have hc2 := turned_any (mid (one xb) M.heap.size D2.heap.size) q.ins ia ic D2 (rdRules.sub (sub_into (HBw.out.trans (hBd.mono HBw.out.size)) (fun b hb => mid_false.2 (.inl ⟨by omega, one_false (by omega)⟩))) (Nat.le_trans HBw.out.size hBd.size) HRI.out)
        obtain ⟨I, hI⟩ : ∃ I, I = turn q.ins := ⟨_, rfl⟩
        rw [← hI] at hc2
        have HI2 := hid hI
        have HC2 := hid hc2
        have HND := hid nd
        have HBd := hid hBd
        have HSd := hid hSd
        clear nd hBd hSd hI hc2 k0 kf
        refine HC2.out.mono ?_
        rintro e w4 ⟨⟨a4, c4, rfl, _, hr4⟩, hb4⟩
        have hs4 := hb4.size
        have HR4 := hid hr4
        have HB4 := hid hb4
        have HY4 := hid ((hb4.block wa.heap.size (by omega)).trans HND.out)
        have k0 := blk_cell HY4.out
        have kf := blk_frozen HY4.out
        have hX4 : w4.heap[xb]? = some (.cells #[v, v'] 28 (0, 0)) := (hb4.block xb (by omega)).trans ((HBd.out.block xb (by omega)).trans HRB.out)
        have x1 : w4.cell? ⟨xb, 1, none⟩ = some v' := (blk_cell hX4 1).trans rfl
        have HX4 := hid hX4
        have hne1 : ¬ xb = wa.heap.size := by omega
        have hne2 : ¬ wa.heap.size = xb := by omega
        have HBE := hid (show Below wa.heap.size wa (w4.setCell ⟨wa.heap.size, 5, none⟩ (.slice a4 I.length c4)) from (HBd.out.trans (hb4.mono HBd.out.size)).setCell (Nat.le_refl _) _)
        have HUE := hid (HU.out.grow NPol.mono HBE.out)
        have HXE := hid (show (w4.setCell ⟨wa.heap.size, 5, none⟩ (.slice a4 I.length c4)).heap[xb]? = some (.cells #[v, v'] 28 (0, 0)) from (Below.heap_setCell _ _ _ _ (by show xb ≠ wa.heap.size; omega)).trans hX4)
        clear hr4 hb4 hX4
        go_wp2_with (at_builtin; go_must (refine wpList_append_own_at _ rfl _ _ 26 rfl M.heap.size 59 iq0 _ 6 80 Tryz.underlying26 hiq iqz0 iqz1 iqz2 rfl (by decide) _ _ _ rfl (HUE.out.1.alloc (.cells #[.int .i64 q.space, .int .i64 q.need, .int .i64 q.ban, .int .i64 q.ways, .slice a2 O.length c2, .slice a4 I.length c4] 59)) ⟨w4.heap.size, 0, none⟩ 1 1 (encPol ⟨shPol q, .slice a2 O.length c2, .slice a4 I.length c4⟩) (by simp [go_sem]) rfl (by have := cell_new_list (w4.setCell ⟨wa.heap.size, 5, none⟩ (.slice a4 I.length c4)) (encPol ⟨shPol q, .slice a2 O.length c2, .slice a4 I.length c4⟩) 59; simp only [World.size_setCell] at this; exact this) (by intro u hu; simp only [encPol, List.mem_cons, List.not_mem_nil, or_false] at hu; rcases hu with rfl | rfl | rfl | rfl | rfl | rfl <;> rfl) (by unfold maxLen; omega) (by omega) (by rw [World.size_alloc, World.size_setCell]; omega) ?_); intro v3 w8 hown8 hg8 hnil8 hat8; obtain ⟨a8, c8, rfl, _, _⟩ := own_slice hown8; have t8 : w8.heap[xb]? = some (.cells #[v, v'] 28 (0, 0)) := (hg8.block xb (by rw [World.size_alloc, World.size_setCell]; omega) (fun e => by have := HVB.out _ e.symm; omega)).trans ((Below.heap_alloc _ _ _ (by rw [World.size_setCell]; omega)).trans HXE.out); have y8 : w8.cell? ⟨xb, 1, none⟩ = some v' := (blk_cell t8 1).trans rfl; have yf8 := blk_frozen t8; have HT8 := hid t8; have HO8 := hid hown8; have HG8 := hid hg8; have HA8 := hid hat8; clear hown8 hg8 hnil8 hat8 t8)
        obtain ⟨E, hE⟩ : ∃ E, E = w4.setCell ⟨wa.heap.size, 5, none⟩ (.slice a4 I.length c4) := ⟨_, rfl⟩
        have hO8 := HO8.out
        have hG8 := HG8.out
        have hA8 := HA8.out
        have hBE := HBE.out
        have hsE : E.heap.size = w4.heap.size := by rw [hE]; exact World.size_setCell _ _ _
        have hSE : ∀ b, b ≠ wa.heap.size → E.heap[b]? = w4.heap[b]? := fun b hb => by rw [hE]; exact Below.heap_setCell _ _ _ _ hb
        rw [← hE] at hG8 hA8 hBE
        have hZE : Below E.heap.size E (E.alloc (.cells #[.int .i64 q.space, .int .i64 q.need, .int .i64 q.ban, .int .i64 q.ways, .slice a2 O.length c2, .slice a4 I.length c4] 59)) := (by repeat (first | exact Below.refl _ _ | assumption | apply Ext.alloc | apply Ext.drewN | apply Ext.drew | refine Ext.trans ?_ (by assumption)))
        have hZ : Below wa.heap.size wa (E.alloc (.cells #[.int .i64 q.space, .int .i64 q.need, .int .i64 q.ban, .int .i64 q.ways, .slice a2 O.length c2, .slice a4 I.length c4] 59)) := hBE.trans (hZE.mono hBE.size)
        have hN : NPol (E.alloc (.cells #[.int .i64 q.space, .int .i64 q.need, .int .i64 q.ban, .int .i64 q.ways, .slice a2 O.length c2, .slice a4 I.length c4] 59)).heap.size (hide (E.alloc (.cells #[.int .i64 q.space, .int .i64 q.need, .int .i64 q.ban, .int .i64 q.ways, .slice a2 O.length c2, .slice a4 I.length c4] 59)) (orOwn (mid (one xb) M.heap.size M.heap.size) v')) ⟨shPol q, .slice a2 O.length c2, .slice a4 I.length c4⟩ := by
          refine ⟨⟨a2, c2, by show Value.slice a2 O.length c2 = .slice a2 (turn q.outs).length c2; rw [HO.out], ?_⟩, a4, c4, by show Value.slice a4 I.length c4 = .slice a4 (turn q.ins).length c4; rw [HI2.out], ?_⟩
          · show rdRules _ _ a2 (turn q.outs)
            rw [← HO.out]
            exact rdRules.sub (sub_turned (yb := wa.heap.size) hsb (by omega) (fun b hb hne => (hZE.block b (by omega)).trans ((hSE b hne).trans ((HB4.out.block b (by omega)).trans (HSd.out b hne)))) (fun g hg => ⟨HVB.out g hg, by have := HVL.out g hg; omega⟩)) (by rw [World.size_alloc]; omega) HR2.out
          · show rdRules _ _ a4 (turn q.ins)
            rw [← HI2.out]
            exact rdRules.sub (sub_turned (yb := wa.heap.size) hsb (by omega) (fun b hb hne => (hZE.block b (by omega)).trans (hSE b hne)) (fun g hg => ⟨HVB.out g hg, by have := HVL.out g hg; omega⟩)) (by rw [World.size_alloc]; omega) HR4.out
        refine ⟨⟨t, _, ys ++ [⟨shPol q, .slice a2 O.length c2, .slice a4 I.length c4⟩], by omega, rfl, by rw [List.map_append, HYS.out]; exact (rev_step shPol HQJ.out).symm, (set_blk HT8.out 1 _).trans rfl, ?_, gb_set (gb_row (gb_below HG.out hZ) hG8 HVB.out) 1 _⟩, by simp [intOf]⟩
        have g3 := UpG.app NPol.mono (HU.out.grow NPol.mono hZ) hN hO8 hG8 hA8
        exact g3.set NPol.mono ⟨xb, 1, none⟩ _ (by show xb < M.heap.size; omega) (by rw [mid_old (by show xb < M.heap.size; omega)]; exact one_true xb)
      · have hj0 : j = 0 := by omega
        subst hj0
        rw [show (((0 : Nat) : Int) - 1) = -1 from rfl]
        obtain ⟨D, hD⟩ : ∃ D, D = shClu C := ⟨_, rfl⟩
        have hDp : D.pods = C.pods.reverse := by rw [hD]; rfl
        have hDq : D.pols = (C.pols.map shPol).reverse := by rw [hD]; rfl
        have hysd : ys.map (·.d) = D.pols := by rw [hys, hDq]; rfl
        have hgb := HUP.out.gb NNo.mono hg (by omega)
        obtain ⟨va, vc, rfl, hvc, hrp'⟩ := upPods_done hgb (by simp; omega)
        obtain ⟨va', vc', rfl, hvc', hrq'⟩ := upGPols_done hup (fun g hg => mid_false.2 (.inr ⟨(hup.lt g hg).1, (hup.lt g hg).1⟩)) (by omega)
        have hq1 : rdPods wa.heap.size wa va D.pods := by rw [hDp]; exact rdPods.sub (Sub.show _ _) (Nat.le_refl _) hrp'
        have hq2 : rdPols wa.heap.size wa va' D.pols := by rw [← hysd]; exact rdPols.sub (Sub.show _ _) (Nat.le_refl _) hrq'
        have hvc : D.pods.length ≤ vc := by rw [hDp]; exact hvc
        rw [← hDp] at g0
        rw [hysd] at g1
        have hmay : (may D 1 x x.src x.dst && may D 2 x x.dst x.src) = (may C 1 x x.src x.dst && may C 2 x x.dst x.src) := by rw [hD, sh_may HC.out, sh_may HC.out]
        have hRD : (right D).1 = 0 := by rw [hD, sh_right HC.out hpl hql]
        have HRD := hid hRD
        have HMAY := hid hmay
        have HD1 := hid hq1
        have HD2 := hid hq2
        have b0' := hg.cell b0 (fun e => by have := Option.some.inj e; simp only at this; omega)
        have p0' := hg.cell p0 (fun e => by have := Option.some.inj e; simp only at this; omega)
        have p1' := hg.cell p1 (fun e => by have := Option.some.inj e; simp only at this; omega)
        have p2' := hg.cell p2 (fun e => by have := Option.some.inj e; simp only at this; omega)
        have p3' := hg.cell p3 (fun e => by have := Option.some.inj e; simp only at this; omega)
        have hBwa := Ext.trans HBB.out HBw.out
        have HBW2 := hid hBwa
        clear hys hrb hup hg hD hDp hDq hysd hgb hrp' hrq' hq1 hq2 hmay hRD hBwa b0 b1 p0 p1 p2 p3
        go_wp2_with fail
        refine (keepAllowed_any C x a a' n n' wa (rdPods.to HRP.out HBw.out) (rdPols.to HRQ.out HBw.out) hn HR.out HX.out).mono ?_
        obtain ⟨want, hwant⟩ : ∃ want, want = (may C 1 x x.src x.dst && may C 2 x x.dst x.src) := ⟨_, rfl⟩
        have hmay := HMAY.out
        rw [← hwant] at hmay ⊢
        have HMW := hid hmay
        clear hmay hwant
        rintro e wF ⟨rfl, hbF⟩
        have hsF := hbF.size
        have a0 := cell_to g0 hbF
        have a1 := cell_to g1 hbF
        have a2 := cell_to p0' hbF
        have a3 := cell_to p1' hbF
        have a4 := cell_to p2' hbF
        have a5 := cell_to p3' hbF
        have HF := hid hbF
        clear hbF g0 g1 p0' p1' p2' p3' b0' f1 gf
        go_wp2_with fail
        have hall := keepAllowed_any D x va va' vc vc' wF (rdPods.to HD1.out HF.out) (rdPols.to HD2.out HF.out) hvc HRD.out HX.out
        rw [HMW.out] at hall
        have HALL := hid hall
        clear hall
        refine HALL.out.mono ?_
        rintro e wG ⟨rfl, hbG⟩
        have hsG := hbG.size
        have d0 := cell_to a0 hbG
        have d1 := cell_to a1 hbG
        have d2 := cell_to a2 hbG
        have d3 := cell_to a3 hbG
        have d4 := cell_to a4 hbG
        have d5 := cell_to a5 hbG
        have HG2 := hid (Ext.trans HF.out hbG)
        clear hbG a0 a1 a2 a3 a4 a5
        go_wp2_with fail
        refine (compile_ok D va va' vc vc' wG (rdPods.to HD1.out HG2.out) (rdPols.to HD2.out HG2.out) hvc HRD.out).mono ?_
        rintro e wH ⟨⟨tb, rfl, htb, u0, u1, u2, hT, hTC⟩, hbH⟩
        obtain ⟨T, hTT⟩ := (TabC.at hTC hT).as
        have HT := hid hTT
        have hsH := hbH.size
        have e0 := cell_to d0 hbH
        have e1 := cell_to d1 hbH
        have e2 := cell_to d2 hbH
        have e3 := cell_to d3 hbH
        have e4 := cell_to d4 hbH
        have e5 := cell_to d5 hbH
        have HH := hid (Ext.trans HG2.out hbH)
        clear hbH hT hTC hTT htb d0 d1 d2 d3 d4 d5
        go_wp2_with fail
        refine (admits_any D T tb x wH HT.out HX.out (right_zero HRD.out)).mono ?_
        rw [HMW.out]
        rintro e wI ⟨rfl, hbI⟩
        have HI3 := hid (Ext.trans HH.out hbI)
        clear hbI e0 e1 e2 e3 e4 e5
        go_wp2_with fail
        go_ret
        exact ⟨by simp, Ext.trans HBW2.out HI3.out⟩
end Go.Proofs.YtmkjlhplgcifiaaGreat
