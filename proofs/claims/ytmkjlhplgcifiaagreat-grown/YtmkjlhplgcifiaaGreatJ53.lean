/-
  For the rows of the laws: what came in, opened; and that a call which only makes new memory leaves what came in as it was.
  slices.Grow of nil, slices.Concat of two lists: at pods and at policies.
  palisade: follow, AddPod, DropPod.
  palisade: AddPolicy, DropPolicy.
  palisade: DropPolicy.
  palisadekeep: Grown: what the walks want.
-/
import Derived.Test.YtmkjlhplgcifiaaGreatJ52
import Derived.Test.YtmkjlhplgcifiaaGreatJ15
import Derived.Test.YtmkjlhplgcifiaaGreatJ09
import Derived.Test.YtmkjlhplgcifiaaGreatJ24
import Derived.Test.YtmkjlhplgcifiaaGreatJ45
import Derived.Test.YtmkjlhplgcifiaaGreatJ48
import Derived.Test.YtmkjlhplgcifiaaGreatJ50
import Derived.Test.YtmkjlhplgcifiaaGreatJ51
import Derived.OpenShut
import Derived.Lib.AppendZeros
namespace Go.Proofs.YtmkjlhplgcifiaaGreat
open Go.ChangeShapes Go.WideShapes Go.ChangeAt Go.RowKit
attribute [local simp] World.cell?_grow
attribute [local go_sem] World.cell?_grow
attribute [local simp] World.cell?_alloc_there
attribute [local go_sem] World.cell?_alloc_there
attribute [local go_sem] eqg_blk std_blk eqg_pod std_pod eqg_sel std_sel eqg_prt std_prt
attribute [local go_sem ↓] eql_blk eql_sel neq_sel eql_prt eql_pod
attribute [local go_sem ↓] met_in1 met_in2 met_re1 met_re2
attribute [local go_sem ↓] met_has1 met_has2
attribute [local go_sem ↓] met_bl1 met_bl2
set_option linter.unusedVariables false
set_option linter.unusedSimpArgs false
theorem row_own : ownKnob Tryz.prog.godebug = none := by kernel_rfl
theorem row_laid : laidOutB Tryz.prog = true := by kernel_rfl
theorem cells_spod : Tryz.prog.cellsOf 25 = 1 := by kernel_rfl
theorem cells_spol : Tryz.prog.cellsOf 26 = 1 := by kernel_rfl
theorem clu_reads : Tryz.prog.readableRec 28 = true := by kernel_rfl
theorem pkt_reads : Tryz.prog.readableRec 30 = true := by kernel_rfl
theorem clu_row : 28 < Tryz.prog.types.size := of_decide_eq_true (by kernel_rfl)
theorem pkt_row : 30 < Tryz.prog.types.size := of_decide_eq_true (by kernel_rfl)
def iPkt (k : DPkt) : Prop := i64 k.src ∧ i64 k.dst ∧ i64 k.proto ∧ i64 k.port
section
variable {H : Type} {enc : TypeId × Value → H} {P : Program}
/-- nothing that was there has turned; new blocks may have come -/
theorem post_of_below {f : Func} {s : ChangeSpec} {apart fresh handsOn again : Bool} {W W' : World} {args : Array Value} {v : Value} {ds gs : List (DataW H)} {before : List MemPlace}
    (hW : DataW.Whole enc P f.params.toList s.vars apart W args.toList ds gs before)
    (hres : ∀ (b : Nat) (sp : Nat → Bool) (hd : Bool), DataW.TrodAll enc P W' b sp hd f.resultTypes.toList (v.resultList f.resultTypes.size) (s.fn H (ds ++ gs)).results [])
    (hargs : ∀ sp : Nat → Bool, (∀ p ∈ before, sp p.block = true) → DataW.TrodAll enc P W' 0 sp true f.params.toList args.toList (s.fn H (ds ++ gs)).args before)
    (hvars : ∀ sp : Nat → Bool, DataW.TrodVars enc P W' sp s.vars (s.fn H (ds ++ gs)).vars [])
    (hb : Below W.heap.size W W')
    (hok : ∀ (j : Nat) (t : TypeId) (r : Value), f.resultTypes[j]? = some t → (v.resultList f.resultTypes.size)[j]? = some r → Value.okWide P W' .any 0 t r) :
    s.post enc P f apart fresh handsOn again W args v W' := by
  have hold : ∀ p ∈ before, (fun b => decide (b < W.heap.size)) p.block = true := fun p hp => by simpa using hW.lt p hp
  have hW2 := hW
  refine ⟨ds, gs, before, [], before, [], hW, hres _ _ _, hargs _ hold, hvars _, World.keptBut_mono (fun p hp => ⟨hp, Or.inr (by simpa using hp)⟩) (hb.frame _), fun _ => ?_⟩
  obtain ⟨_, _, _, _, _, hz, hn⟩ := hW2
  refine ⟨hok, _, _, before, ⟨[] ++ before, [], trodAll_append (hargs _ (fun _ _ => rfl)) (hres _ _ _), hvars _, by simp, ?_, ?_⟩, ?_⟩
  · intro b off hp
    rw [hb.frozen (hW.lt _ hp)]
    exact hz b off hp
  · intro ha
    exact hn ha
  · intro p hp _
    simpa using hp
end
section
variable {H : Type} {enc : TypeId × Value → H} {w : World} {base : Nat} {spare : Nat → Bool} {held : Bool}
theorem open_clu {fuel : Nat} {c0 c1 : Value} {y : DataW H × List MemPlace} (h : DataW.trod enc Tryz.prog w base spare held fuel 28 [c0, c1] = some y) (hw : ∀ n ∈ y.1.weights Tryz.prog 28, n ≤ reachBytes) :
    ∃ pa pods pc qa pols qc, c0 = .slice pa pods.length pc ∧ c1 = .slice qa pols.length qc ∧ rdPods w.heap.size w pa pods ∧ rdPols w.heap.size w qa pols ∧ iClu ⟨pods, pols⟩ := by
  obtain ⟨_, n, hf⟩ := open_st Tryz.underlying28 h hw
  obtain ⟨z0, k0, b0⟩ := hf 0 _ rfl
  obtain ⟨z1, k1, b1⟩ := hf 1 _ rfl
  have k0' : DataW.trod enc Tryz.prog w base spare held n 25 [c0] = some z0 := by have q : DataW.trod enc Tryz.prog w base spare held n 25 (([c0, c1].drop 0).take (Tryz.prog.cellsOf 25)) = some z0 := k0; rw [cells_spod] at q; exact q
  have k1' : DataW.trod enc Tryz.prog w base spare held n 26 [c1] = some z1 := by have q : DataW.trod enc Tryz.prog w base spare held n 26 (([c0, c1].drop 1).take (Tryz.prog.cellsOf 26)) = some z1 := k1; rw [cells_spol] at q; exact q
  obtain ⟨pa, pods, pc, e0, rp, ip⟩ := open_pods k0' b0
  obtain ⟨qa, pols, qc, e1, rq, iq⟩ := open_pols k1' b1
  simp only [List.cons.injEq, and_true] at e0 e1
  exact ⟨pa, pods, pc, qa, pols, qc, e0, e1, rp, rq, ip, iq⟩
theorem open_pkt {fuel : Nat} {x0 x1 x2 x3 : Value} {y : DataW H × List MemPlace} (h : DataW.trod enc Tryz.prog w base spare held fuel 30 [x0, x1, x2, x3] = some y) (hw : ∀ n ∈ y.1.weights Tryz.prog 30, n ≤ reachBytes) :
    ∃ k : DPkt, x0 = .int .i64 k.src ∧ x1 = .int .i64 k.dst ∧ x2 = .int .i64 k.proto ∧ x3 = .int .i64 k.port ∧ iPkt k := by
  obtain ⟨_, n, hf⟩ := open_st Tryz.underlying30 h hw
  obtain ⟨z0, h0, _⟩ := hf 0 _ rfl
  obtain ⟨z1, h1, _⟩ := hf 1 _ rfl
  obtain ⟨z2, h2, _⟩ := hf 2 _ rfl
  obtain ⟨z3, h3, _⟩ := hf 3 _ rfl
  have k0 : DataW.trod enc Tryz.prog w base spare held n 3 [x0] = some z0 := by have q : DataW.trod enc Tryz.prog w base spare held n 3 (([x0, x1, x2, x3].drop 0).take (Tryz.prog.cellsOf 3)) = some z0 := h0; rw [cells_int] at q; exact q
  have k1 : DataW.trod enc Tryz.prog w base spare held n 3 [x1] = some z1 := by have q : DataW.trod enc Tryz.prog w base spare held n 3 (([x0, x1, x2, x3].drop 1).take (Tryz.prog.cellsOf 3)) = some z1 := h1; rw [cells_int] at q; exact q
  have k2 : DataW.trod enc Tryz.prog w base spare held n 3 [x2] = some z2 := by have q : DataW.trod enc Tryz.prog w base spare held n 3 (([x0, x1, x2, x3].drop 2).take (Tryz.prog.cellsOf 3)) = some z2 := h2; rw [cells_int] at q; exact q
  have k3 : DataW.trod enc Tryz.prog w base spare held n 3 [x3] = some z3 := by have q : DataW.trod enc Tryz.prog w base spare held n 3 (([x0, x1, x2, x3].drop 3).take (Tryz.prog.cellsOf 3)) = some z3 := h3; rw [cells_int] at q; exact q
  obtain ⟨s0, e0, i0⟩ := open_it k0
  obtain ⟨s1, e1, i1⟩ := open_it k1
  obtain ⟨s2, e2, i2⟩ := open_it k2
  obtain ⟨s3, e3, i3⟩ := open_it k3
  exact ⟨⟨s0, s1, s2, s3⟩, e0, e1, e2, e3, i0, i1, i2, i3⟩
end
end Go.Proofs.YtmkjlhplgcifiaaGreat
namespace Go.Proofs.YtmkjlhplgcifiaaGreat
open Go.ChangeShapes Go.WideShapes Go.ChangeAt Go.RowKit
attribute [local simp] World.cell?_grow
attribute [local go_sem] World.cell?_grow
attribute [local simp] World.cell?_alloc_there
attribute [local go_sem] World.cell?_alloc_there
attribute [local go_sem] eqg_blk std_blk eqg_pod std_pod eqg_sel std_sel eqg_prt std_prt
attribute [local go_sem ↓] eql_blk eql_sel neq_sel eql_prt eql_pod
attribute [local go_sem ↓] met_in1 met_in2 met_re1 met_re2
attribute [local go_sem ↓] met_has1 met_has2
attribute [local go_sem ↓] met_bl1 met_bl2
set_option linter.unusedVariables false
set_option linter.unusedSimpArgs false
/-- an element, by its cells -/
def eCells {X : Type} (enc : X → List Value) (_B : Nat) (w : World) (b o : Nat) (x : X) : Prop := ∀ j u, (enc x)[j]? = some u → w.cell? ⟨b, o + j, none⟩ = some u
theorem cells_to {X : Type} {enc : X → List Value} {B k bytes : Nat} {w w' : World} {a : Option Addr} {l : List X} (h : RdSl w.heap.size w k bytes (eCells enc) a l) (hb : Below w.heap.size w w') (hB : w.heap.size ≤ B) : RdSl B w' k bytes (eCells enc) a l :=
  RdSl.ext h hB fun b o x hl he j u hj => by rw [hb.cell (p := ⟨b, o + j, none⟩) hl]; exact he j u hj
end Go.Proofs.YtmkjlhplgcifiaaGreat
namespace Go.Proofs.YtmkjlhplgcifiaaGreat
open Go.ChangeShapes Go.WideShapes Go.ChangeAt Go.RowKit
attribute [local simp] World.cell?_grow
attribute [local go_sem] World.cell?_grow
attribute [local simp] World.cell?_alloc_there
attribute [local go_sem] World.cell?_alloc_there
attribute [local go_sem] eqg_blk std_blk eqg_pod std_pod eqg_sel std_sel eqg_prt std_prt
attribute [local go_sem ↓] eql_blk eql_sel neq_sel eql_prt eql_pod
attribute [local go_sem ↓] met_in1 met_in2 met_re1 met_re2
attribute [local go_sem ↓] met_has1 met_has2
attribute [local go_sem ↓] met_bl1 met_bl2
attribute [local go_sem] eqg_row std_row
attribute [local go_sem ↓] neq_row
set_option linter.unusedVariables false
set_option linter.unusedSimpArgs false
end Go.Proofs.YtmkjlhplgcifiaaGreat
namespace Go.Proofs.YtmkjlhplgcifiaaGreat
open Go.ChangeShapes Go.WideShapes Go.ChangeAt Go.RowKit
attribute [local simp] World.cell?_grow
attribute [local go_sem] World.cell?_grow
attribute [local simp] World.cell?_alloc_there
attribute [local go_sem] World.cell?_alloc_there
attribute [local go_sem] eqg_blk std_blk eqg_pod std_pod eqg_sel std_sel eqg_prt std_prt
attribute [local go_sem ↓] eql_blk eql_sel neq_sel eql_prt eql_pod
attribute [local go_sem ↓] met_in1 met_in2 met_re1 met_re2
attribute [local go_sem ↓] met_has1 met_has2
attribute [local go_sem ↓] met_bl1 met_bl2
attribute [local go_sem] eqg_row std_row
attribute [local go_sem ↓] neq_row
set_option linter.unusedVariables false
set_option linter.unusedSimpArgs false
theorem list_at {α β : Type} {l : List α} (Q : Nat → α → β → Prop) (h : ∀ i x, l[i]? = some x → ∃ y, Q i x y) : ∃ m : List β, m.length = l.length ∧ ∀ i y, m[i]? = some y → ∃ x, l[i]? = some x ∧ Q i x y := by
  induction l generalizing Q with
  | nil => exact ⟨[], rfl, fun i y hy => by simp at hy⟩
  | cons x l ih =>
    obtain ⟨y, hy⟩ := h 0 x rfl
    obtain ⟨m, hm, hq⟩ := ih (fun i x y => Q (i + 1) x y) (fun i x hx => h (i + 1) x hx)
    refine ⟨y :: m, by simp [hm], fun i z hz => ?_⟩
    cases i with
    | zero => cases hz; exact ⟨x, rfl, hy⟩
    | succ i => obtain ⟨x', h1, h2⟩ := hq i z (by simpa using hz); exact ⟨x', by simpa using h1, h2⟩
/-- policies that are read, by their cells -/
theorem pols_cells {B : Nat} {w : World} {a : Option Addr} {l : List DPol} (h : rdPols B w a l) : ∃ R : List RPol, R.map (·.d) = l ∧ RdSl B w 6 80 (eCells encPol) a R ∧ ∀ r ∈ R, r.ok B w := by
  obtain ⟨R, hl, hR⟩ := list_at (l := l) (fun i x (r : RPol) => r.d = x ∧ r.ok B w ∧ ∃ b off, a = some ⟨b, off, none⟩ ∧ b < B ∧ eCells encPol B w b (off + i * 6) r) fun i x hx => by
    obtain ⟨b, off, e, hb, h0, h1, h2, h3, ⟨oa, oc, h4, h5⟩, ia, ic, h6, h7⟩ := h.2 i x hx
    refine ⟨⟨x, .slice oa x.outs.length oc, .slice ia x.ins.length ic⟩, rfl, ⟨⟨oa, oc, rfl, h5⟩, ia, ic, rfl, h7⟩, b, off, e, hb, fun j u hj => ?_⟩
    have hj6 : j < 6 := (List.getElem?_eq_some_iff.1 hj).1
    match j, hj6 with
    | 0, _ => cases hj; exact h0
    | 1, _ => cases hj; exact h1
    | 2, _ => cases hj; exact h2
    | 3, _ => cases hj; exact h3
    | 4, _ => cases hj; exact h4
    | 5, _ => cases hj; exact h6
  refine ⟨R, ?_, ⟨by rw [hl]; exact h.1, fun i r hr => ?_⟩, fun r hr => ?_⟩
  · refine List.ext_getElem? fun i => ?_
    rw [List.getElem?_map]
    cases hr : R[i]? with
    | none => rw [List.getElem?_eq_none_iff] at hr; rw [hl] at hr; rw [List.getElem?_eq_none hr]; rfl
    | some r => obtain ⟨x, h1, h2, _⟩ := hR i r hr; rw [h1]; simp [h2]
  · obtain ⟨x, _, _, _, b, off, e, hb, h2⟩ := hR i r hr
    exact ⟨b, off, e, hb, h2⟩
  · obtain ⟨i, hi⟩ := List.mem_iff_getElem?.1 hr
    obtain ⟨x, _, _, h2, _⟩ := hR i r hi
    exact h2
theorem encPols_ones {B : Nat} {w : World} {R : List RPol} (h : ∀ r ∈ R, r.ok B w) : ∀ u ∈ R.flatMap encPol, u.oneCell' = true := by
  intro u hu
  obtain ⟨r, hr, hx⟩ := List.mem_flatMap.1 hu
  obtain ⟨⟨oa, oc, ho, _⟩, ia, ic, hi, _⟩ := h r hr
  simp only [encPol, ho, hi, List.mem_cons, List.not_mem_nil, or_false] at hx
  rcases hx with rfl | rfl | rfl | rfl | rfl | rfl <;> rfl
end Go.Proofs.YtmkjlhplgcifiaaGreat
namespace Go.Proofs.YtmkjlhplgcifiaaGreat
open Go.ChangeShapes Go.WideShapes Go.ChangeAt Go.RowKit
attribute [local simp] World.cell?_grow
attribute [local go_sem] World.cell?_grow
attribute [local simp] World.cell?_alloc_there
attribute [local go_sem] World.cell?_alloc_there
attribute [local go_sem] eqg_blk std_blk eqg_pod std_pod eqg_sel std_sel eqg_prt std_prt
attribute [local go_sem ↓] eql_blk eql_sel neq_sel eql_prt eql_pod
attribute [local go_sem ↓] met_in1 met_in2 met_re1 met_re2
attribute [local go_sem ↓] met_has1 met_has2
attribute [local go_sem ↓] met_bl1 met_bl2
attribute [local go_sem] eqg_row std_row
attribute [local go_sem ↓] neq_row
set_option linter.unusedVariables false
set_option linter.unusedSimpArgs false
theorem own_lower {w : World} {base base' : Nat} {e : TypeId} {size : Nat} {v : Value} {n : Nat} {xs : List Value} (h : w.ownsRow base e size v n xs) (hb : base' ≤ base) : w.ownsRow base' e size v n xs := by
  obtain ⟨h1, h2 | ⟨g, cap, cur, e, h3, h4⟩⟩ := h
  · exact ⟨h1, .inl h2⟩
  · exact ⟨h1, .inr ⟨g, cap, cur, e, Nat.le_trans hb h3, h4⟩⟩
end Go.Proofs.YtmkjlhplgcifiaaGreat
namespace Go.Proofs.YtmkjlhplgcifiaaGreat
open Go.ChangeShapes Go.WideShapes Go.ChangeAt Go.RowKit
attribute [local simp] World.cell?_grow
attribute [local go_sem] World.cell?_grow
attribute [local simp] World.cell?_alloc_there
attribute [local go_sem] World.cell?_alloc_there
attribute [local go_sem] eqg_blk std_blk eqg_pod std_pod eqg_sel std_sel eqg_prt std_prt
attribute [local go_sem ↓] eql_blk eql_sel neq_sel eql_prt eql_pod
attribute [local go_sem ↓] met_in1 met_in2 met_re1 met_re2
attribute [local go_sem ↓] met_has1 met_has2
attribute [local go_sem ↓] met_bl1 met_bl2
attribute [local go_sem] eqg_row std_row
attribute [local go_sem ↓] neq_row
set_option linter.unusedVariables false
set_option linter.unusedSimpArgs false
theorem CluOwn.grow {B : Nat} {w w' : World} {v v' : Value} {c : DClu} (h : CluOwn B w v v' c) (hb : Below w.heap.size w w') : CluOwn B w' v v' c := by
  obtain ⟨m, ys, h1, h2, h3, h4, h5, h6⟩ := h
  exact ⟨m, ys, h1, h2.grow NNo.mono hb, h3, h4.grow NPol.mono hb, h5, h6.to (fun b _ hl _ => hb.block b hl) hb.size⟩
theorem CluOwn.get {B : Nat} {w' : World} {v v' : Value} {c : DClu} (h : CluOwn B w' v v' c) :
    ∃ a n a' n', v = .slice a (mkClu c).pods.length n ∧ v' = .slice a' (mkClu c).pols.length n' ∧ ((mkClu c).pods.length ≤ n ∧ (mkClu c).pols.length ≤ n') ∧ rdPods w'.heap.size w' a (mkClu c).pods ∧ rdPols w'.heap.size w' a' (mkClu c).pols := by
  obtain ⟨m, ys, hm, hup, hv, huq, hys, _⟩ := h
  have hl := (mkPods_good c.pods).1
  have hyl : ys.length ≤ 4 := by have h := congrArg List.length hys; simp at h; omega
  obtain ⟨a, n, rfl, hn, hr⟩ := upPods_done hup (by omega)
  obtain ⟨a', n', rfl, hn', hr'⟩ := upPols_done huq (by omega)
  rw [hys] at hn' hr' ⊢
  exact ⟨a, n, a', n', rfl, rfl, ⟨hn, hn'⟩, rdPods.sub (Sub.show _ _) (Nat.le_refl _) hr, rdPols.sub (Sub.show _ _) (Nat.le_refl _) hr'⟩
theorem keepAllowed_len (c : DClu) (k : DPkt) (pa qa : Option Addr) (pc qc m n : Nat) (w : World) (hm : c.pods.length = m) (hn : c.pols.length = n) (hp : rdPods w.heap.size w pa c.pods) (hq : rdPols w.heap.size w qa c.pols) (hpc : c.pods.length ≤ pc) (hr : (right c).1 = 0) (hk : pktOk k = true) :
    Calls Tryz.prog 15 #[.agg #[.slice pa m pc, .slice qa n qc], .agg #[.int .i64 k.src, .int .i64 k.dst, .int .i64 k.proto, .int .i64 k.port]] w
      fun e w' => e = .returned (.tuple #[.bool (may c 1 k k.src k.dst && may c 2 k k.dst k.src), .bool true]) ∧ Below w.heap.size w w' := by
  subst hm hn; exact keepAllowed_any c k pa qa pc qc w hp hq hpc hr hk
end Go.Proofs.YtmkjlhplgcifiaaGreat
