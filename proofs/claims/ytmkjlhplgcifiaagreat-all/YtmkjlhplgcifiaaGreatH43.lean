/-
  palisadelaw: the state of a script's world, the document's clusters in rows of their own.
-/
import Derived.Test.YtmkjlhplgcifiaaGreatH42
import Derived.Test.YtmkjlhplgcifiaaGreatH40
namespace Go.Proofs.YtmkjlhplgcifiaaGreat
open Go.ChangeShapes Go.WideShapes Go.ChangeAt Go.RowKit
set_option linter.unusedVariables false
set_option linter.unusedSimpArgs false
attribute [local simp] World.cell?_grow World.cell?_alloc_there
attribute [local go_sem] World.cell?_grow World.cell?_alloc_there eqg_blk std_blk eqg_pod std_pod eqg_sel std_sel eqg_prt std_prt eqg_row std_row
attribute [local go_sem ↓] eql_blk eql_sel neq_sel eql_prt eql_pod met_in1 met_in2 met_re1 met_re2 met_has1 met_has2 met_bl1 met_bl2 neq_row
structure DPair where
  tb : Nat
  rb : Nat
  c : DClu
  v : Value
  v' : Value
def DPair.at (p : DPair) : Nat × Nat := (p.tb, p.rb)
def DPair.has (p : DPair) (b : Nat) : Bool := decide (p.tb = b) || decide (p.rb = b) || decide (p.v.ownBlock = some b) || decide (p.v'.ownBlock = some b)
theorem has_false {p : DPair} {b : Nat} : p.has b = false ↔ p.tb ≠ b ∧ p.rb ≠ b ∧ p.v.ownBlock ≠ some b ∧ p.v'.ownBlock ≠ some b := by
  simp [DPair.has, and_assoc]
theorem has_true {p : DPair} {b : Nat} : p.has b = true ↔ p.tb = b ∨ p.rb = b ∨ p.v.ownBlock = some b ∨ p.v'.ownBlock = some b := by
  simp [DPair.has, or_assoc]
def Apart (p q : DPair) : Prop := ∀ b, p.has b = true → q.has b = false
def GSt (wb : Nat) (vl vd : Value) (Ps : List DPair) : Nat → Bool := fun b => decide (b = wb) || decide (vl.ownBlock = some b) || decide (vd.ownBlock = some b) || Ps.any (fun p => p.has b)
theorem GSt_false {wb : Nat} {vl vd : Value} {Ps : List DPair} {b : Nat} : GSt wb vl vd Ps b = false ↔ b ≠ wb ∧ vl.ownBlock ≠ some b ∧ vd.ownBlock ≠ some b ∧ ∀ p ∈ Ps, p.has b = false := by
  simp [GSt, and_assoc]
def PairOk (B : Nat) (w : World) (G : Nat → Bool) (p : DPair) : Prop :=
  (right p.c).1 = 0 ∧ ∃ u0 u1 u2, w.heap[p.tb]? = some (.cells #[u0, u1, u2] 94 (0, 0)) ∧ w.heap[p.rb]? = some (.cells #[p.v, p.v'] 144 (0, 0)) ∧ TabC w.heap.size (hide w G) u0 u1 u2 p.c ∧ OwnPair B w G p.v p.v' p.c
theorem OwnPair.to {B : Nat} {w w' : World} {G G' : Nat → Bool} {v v' : Value} {c : DClu} (h : OwnPair B w G v v' c) (hs : w.heap.size ≤ w'.heap.size) (hv : ∀ b, v.ownBlock = some b ∨ v'.ownBlock = some b → w'.heap[b]? = w.heap[b]?) (hb : ∀ b, b < w.heap.size → G b = false → G' b = false ∧ w'.heap[b]? = w.heap[b]?) : OwnPair B w' G' v v' c := by
  obtain ⟨h1, ys, h2, h3, h4⟩ := h
  exact ⟨own_stay h1 fun g hg => hv g (.inl hg), ys, h2, own_stay h3 fun g hg => hv g (.inr hg), fun y hy => NPol.mono _ _ _ _ y (Sub.hide hb) hs (h4 y hy)⟩
theorem PairOk.to {B : Nat} {w w' : World} {G G' : Nat → Bool} {p : DPair} (h : PairOk B w G p) (hs : w.heap.size ≤ w'.heap.size) (hp : ∀ b, p.has b = true → w'.heap[b]? = w.heap[b]?) (hb : ∀ b, b < w.heap.size → G b = false → G' b = false ∧ w'.heap[b]? = w.heap[b]?) : PairOk B w' G' p := by
  obtain ⟨h0, u0, u1, u2, h1, h2, h3, h4⟩ := h
  exact ⟨h0, u0, u1, u2, (hp _ (has_true.2 (.inl rfl))).trans h1, (hp _ (has_true.2 (.inr (.inl rfl)))).trans h2, h3.sub (BSub.hide hb) hs, h4.to hs (fun b e => hp b (has_true.2 (.inr (.inr e)))) hb⟩
theorem own_ty {w : World} {base : Nat} {e : TypeId} {size : Nat} {v : Value} {n : Nat} {xs : List Value} (h : w.ownsRow base e size v n xs) {g : Nat} (hg : v.ownBlock = some g) : ∃ cur, w.heap[g]? = some (.cells cur e (0, 0)) := by
  obtain ⟨_, ⟨rfl, _⟩ | ⟨g', cap, cur, rfl, _, h2, _⟩⟩ := h
  · cases hg
  · have e2 : g' = g := by simpa [Value.ownBlock] using hg
    subst e2
    exact ⟨cur, h2⟩
theorem ty_ne {w : World} {g g' : Nat} {a b : Array Value} {e e' : TypeId} (h : w.heap[g]? = some (.cells a e (0, 0))) (h' : w.heap[g']? = some (.cells b e' (0, 0))) (hne : e ≠ e') : g ≠ g' := fun x => by
  subst x; rw [h] at h'; cases h'; exact hne rfl
theorem PairOk.ty {B : Nat} {w : World} {G : Nat → Bool} {p : DPair} (h : PairOk B w G p) {b : Nat} (hb : p.has b = true) : ∃ cur t, w.heap[b]? = some (.cells cur t (0, 0)) ∧ (t = 94 ∨ t = 144 ∨ t = 54 ∨ t = 59) := by
  obtain ⟨h0, u0, u1, u2, h1, h2, h3, h4, ys, h5, h6, h7⟩ := h
  rcases has_true.1 hb with rfl | rfl | e | e
  · exact ⟨_, _, h1, .inl rfl⟩
  · exact ⟨_, _, h2, .inr (.inl rfl)⟩
  · obtain ⟨cur, hc⟩ := own_ty h4 e
    exact ⟨_, _, hc, .inr (.inr (.inl rfl))⟩
  · obtain ⟨cur, hc⟩ := own_ty h6 e
    exact ⟨_, _, hc, .inr (.inr (.inr rfl))⟩
theorem PairOk.lt {B : Nat} {w : World} {G : Nat → Bool} {p : DPair} (h : PairOk B w G p) {b : Nat} (hb : p.has b = true) : b < w.heap.size := by
  obtain ⟨cur, t, h1, _⟩ := h.ty hb
  exact (Array.getElem?_eq_some_iff.1 h1).1
def St (wb B : Nat) (vl vd : Value) (Ps : List DPair) (Ds : List DSl) (w : World) : Prop :=
  (B ≤ wb ∧ Ds.length % 4 = 0) ∧ w.heap[wb]? = some (.cells #[vl, vd] 85 (0, 0)) ∧ w.ownsRow B 119 2 vl (Ps.map DPair.at).length ((Ps.map DPair.at).flatMap encPair) ∧ w.ownsRow B 40 1 vd Ds.length (Ds.flatMap encSl) ∧
    (∀ p ∈ Ps, PairOk B w (GSt wb vl vd Ps) p) ∧ (∀ k d, Ds[k]? = some d → d.n ≤ 20003 ∧ w.ownsRow B 49 8 (.slice d.a d.n d.c) d.n (marks (markRow k) d.n)) ∧ Ps.Pairwise Apart
theorem St.grow {wb B : Nat} {vl vd : Value} {Ps : List DPair} {Ds : List DSl} {w w' : World} (h : St wb B vl vd Ps Ds w) (hb : Below w.heap.size w w') : St wb B vl vd Ps Ds w' := by
  obtain ⟨h1, h2, h3, h4, h5, h6, h7⟩ := h
  exact ⟨h1, (hb.block wb (Array.getElem?_eq_some_iff.1 h2).1).trans h2, own_to h3 hb, own_to h4 hb, fun p hp => (h5 p hp).to hb.size (fun b e => hb.block b ((h5 p hp).lt e)) fun b hl hG => ⟨hG, hb.block b hl⟩, fun k d hd => ⟨(h6 k d hd).1, own_to (h6 k d hd).2 hb⟩, h7⟩
def Mv (wb : Nat) (vl vd : Value) (Ps : List DPair) (vl' vd' : Value) (Ps' : List DPair) (w w' : World) : Prop :=
  (w'.os = w.os ∧ w'.tape = w.tape ∧ w'.output = w.output) ∧ w.heap.size ≤ w'.heap.size ∧ (∀ g, vl'.ownBlock = some g → vl.ownBlock = some g ∨ w.heap.size ≤ g) ∧ (∀ g, vd'.ownBlock = some g → vd.ownBlock = some g ∨ w.heap.size ≤ g) ∧ (∀ p ∈ Ps', ∀ b, p.has b = true → (∃ q ∈ Ps, q.has b = true) ∨ w.heap.size ≤ b) ∧
    ∀ b, b < w.heap.size → GSt wb vl vd Ps b = false → w'.heap[b]? = w.heap[b]?
theorem Mv.grow {wb : Nat} {vl vd : Value} {Ps : List DPair} {w w' : World} (hb : Below w.heap.size w w') : Mv wb vl vd Ps vl vd Ps w w' :=
  ⟨⟨hb.os, hb.tape, hb.output⟩, hb.size, fun _ h => .inl h, fun _ h => .inl h, fun p hp b e => .inl ⟨p, hp, e⟩, fun b h _ => hb.block b h⟩
theorem St.compiled {wb B : Nat} {vl vd : Value} {Ps : List DPair} {Ds : List DSl} {w w' : World} {c : DClu} (h : St wb B vl vd Ps Ds w) (hr : (right c).1 = 0) (hc : CompiledOwn wb B vl vd (Ps.map DPair.at) c w w') : ∃ vl' p, St wb B vl' vd (Ps ++ [p]) Ds w' ∧ Mv wb vl vd Ps vl' vd (Ps ++ [p]) w w' := by
  obtain ⟨h1, h2, h3, h4, h5, h6, h7⟩ := h
  obtain ⟨vl', tb, rb, u0, u1, u2, v, v', c1, c2, c3, c4, c5, c6, c7, c8, b1, b2, c9, cp, cs, ct, co, c10⟩ := hc
  have hwl := (Array.getElem?_eq_some_iff.1 h2).1
  have hkeep : ∀ {g : Nat} {cur : Array Value} {t : TypeId}, w.heap[g]? = some (.cells cur t (0, 0)) → t ≠ 85 → t ≠ 119 → w'.heap[g]? = w.heap[g]? := fun {g cur t} hg t1 t2 =>
    c10 g (Array.getElem?_eq_some_iff.1 hg).1 (ty_ne hg h2 t1) (fun e => by obtain ⟨cu, hcu⟩ := own_ty h3 e; exact ty_ne hg hcu t2 rfl)
  have hvd : ∀ g, vd.ownBlock = some g → g < w.heap.size := fun g hg => (h4.lt g hg).2
  have hvl' : ∀ g, vl'.ownBlock = some g → vl.ownBlock = some g ∨ rb < g := fun g hg => by
    rcases c6 with e | ⟨g', e, hgt⟩
    · exact .inl (e ▸ hg)
    · rw [e] at hg; cases hg; exact .inr hgt
  have hvll : ∀ g, vl.ownBlock = some g → g < w.heap.size := fun g hg => (h3.lt g hg).2
  have hnew : ∀ b, (⟨tb, rb, c, v, v'⟩ : DPair).has b = true → w.heap.size ≤ b := fun b e => by
    rcases has_true.1 e with e | e | e | e
    · have e : tb = b := e; omega
    · have e : rb = b := e; omega
    · have := b1 b e; omega
    · have := b2 b e; omega
  have hnewf : ∀ b, b < w.heap.size → (⟨tb, rb, c, v, v'⟩ : DPair).has b = false := fun b hb => by
    cases e : (⟨tb, rb, c, v, v'⟩ : DPair).has b with
    | false => rfl
    | true => have := hnew b e; omega
  have hpk : ∀ p ∈ Ps, ∀ b, p.has b = true → w'.heap[b]? = w.heap[b]? := fun p hp b e => by
    obtain ⟨cur, t, q1, q2⟩ := (h5 p hp).ty e
    rcases q2 with rfl | rfl | rfl | rfl <;> exact hkeep q1 (by decide) (by decide)
  refine ⟨vl', ⟨tb, rb, c, v, v'⟩, ?_, ⟨cs, ct, co⟩, by omega, fun g hg => (hvl' g hg).imp id (fun h => by omega), fun g hg => .inl hg, fun p hp b e => (List.mem_append.1 hp).elim (fun h => .inl ⟨p, h, e⟩) (fun h => .inr (by rw [List.mem_singleton] at h; subst h; exact hnew b e)), fun b hb hG => c10 b hb (GSt_false.1 hG).1 (GSt_false.1 hG).2.1⟩
  refine ⟨h1, c4, ?_, own_stay h4 fun g hg => by obtain ⟨cu, hcu⟩ := own_ty h4 hg; exact hkeep hcu (by decide) (by decide), fun p hp => ?_, fun k d hd => ⟨(h6 k d hd).1, own_stay (h6 k d hd).2 fun g hg => by obtain ⟨cu, hcu⟩ := own_ty (h6 k d hd).2 hg; exact hkeep hcu (by decide) (by decide)⟩, ?_⟩
  · rw [List.map_append]; exact c5
  · rcases List.mem_append.1 hp with hp | hp
    · refine (h5 p hp).to (by omega) (hpk p hp) fun b hb hG => ?_
      obtain ⟨g1, g2, g3, g4⟩ := GSt_false.1 hG
      refine ⟨GSt_false.2 ⟨g1, fun e => ?_, g3, fun q hq => ?_⟩, c10 b hb g1 g2⟩
      · rcases hvl' b e with e' | e'
        · exact g2 e'
        · omega
      · rcases List.mem_append.1 hq with hq | hq
        · exact g4 q hq
        · rw [List.mem_singleton] at hq; subst hq; exact hnewf b hb
    · rw [List.mem_singleton] at hp
      subst hp
      have hG : ∀ b, b < w'.heap.size → (decide (b ≤ tb) || decide (rb ≤ b) || decide (v.ownBlock = some b) || decide (v'.ownBlock = some b)) = false → GSt wb vl' vd (Ps ++ [⟨tb, rb, c, v, v'⟩]) b = false ∧ w'.heap[b]? = w'.heap[b]? := fun b hb hx => by
        simp only [Bool.or_eq_false_iff, decide_eq_false_iff_not] at hx
        obtain ⟨⟨⟨x1, x2⟩, x3⟩, x4⟩ := hx
        refine ⟨GSt_false.2 ⟨by omega, fun e => ?_, fun e => by have := hvd b e; omega, fun q hq => ?_⟩, rfl⟩
        · rcases hvl' b e with e' | e'
          · have := hvll b e'; omega
          · omega
        · rcases List.mem_append.1 hq with hq | hq
          · cases e : q.has b with
            | false => rfl
            | true => have := (h5 q hq).lt e; omega
          · rw [List.mem_singleton] at hq; subst hq; exact has_false.2 ⟨by show tb ≠ b; omega, by show rb ≠ b; omega, x3, x4⟩
      exact ⟨hr, u0, u1, u2, c7, c8, c9.sub (BSub.hide hG) (Nat.le_refl _), cp.to (Nat.le_refl _) (fun _ _ => rfl) hG⟩
  · refine List.pairwise_append.2 ⟨h7, List.pairwise_singleton _ _, fun p hp q hq b e => ?_⟩
    rw [List.mem_singleton] at hq
    subst hq
    exact hnewf b ((h5 p hp).lt e)
set_option maxRecDepth 100000 in
set_option maxHeartbeats 4000000 in
theorem rowed_any (kd on oa ob d0 d1 d2 d3 q0 q1 q2 q3 : Int) (s4 s5 s18 s19 : DSl) (k : DPkt) (c : DClu) (T : Int × Int → List DRow) (tb rb : Nat) (pa qa : Option Addr) (pc qc : Nat) (w : World) (ht : TabsAs w.heap.size w tb c T) (r0 : w.cell? ⟨rb, 0, none⟩ = some (.slice pa c.pods.length pc)) (r1 : w.cell? ⟨rb, 1, none⟩ = some (.slice qa c.pols.length qc)) (hp : rdPods w.heap.size w pa c.pods) (hq : rdPols w.heap.size w qa c.pols) (hc : cluOk c) (hpl : c.pods.length ≤ 8) (hql : c.pols.length ≤ 4) (wb B : Nat) (vl vd : Value) (Ds : List DSl) (hblk : w.heap[wb]? = some (.cells #[vl, vd] 85 (0, 0))) (hod : w.ownsRow B 40 1 vd Ds.length (Ds.flatMap encSl)) (hDl : (Ds.length + 4) * 24 ≤ 140737488355328) (hBw : B ≤ wb) (hm : (oa, ob) ∈ plist) (hk : pktOk k = true) :
    Calls Tryz.prog 51 #[.pointer (some ⟨wb, 0, none⟩), .agg #[.pointer (some ⟨tb, 0, none⟩), .pointer (some ⟨rb, 0, none⟩)], .agg #[.int .i64 kd, .int .i64 on, .int .i64 oa, .int .i64 ob, .slice s4.a s4.n s4.c, .slice s5.a s5.n s5.c, .int .i64 k.src, .int .i64 k.dst, .int .i64 k.proto, .int .i64 k.port, .int .i64 d0, .int .i64 d1, .int .i64 d2, .int .i64 d3, .int .i64 q0, .int .i64 q1, .int .i64 q2, .int .i64 q3, .slice s18.a s18.n s18.c, .slice s19.a s19.n s19.c]] w fun e w' => e = .returned (.bool true) ∧ RowedOk wb B vl vd Ds w w' := by
  obtain ⟨L, hL, hTR⟩ := ht.tab oa ob hm
  have hlen := tab_len hc hpl hql hTR
  have hok := tab_ok hc hTR
  obtain ⟨n, r, hn, hr, hal⟩ := tab_decides hc hTR k hk
  rw [← hL] at hlen hok hn hr
  have hdec := fun W h0 h1 h2 h3 => refDec_any c rb oa ob k pa qa pc qc W h0 h1 h2 h3 hc hm hk
  rw [← hal] at hdec
  have hfst : fstOf k (T (oa, ob)) = (n : Int) := by rw [fstOf, hn]
  have hfi := fun W a cp h0 h1 => first_any (T (oa, ob)) k a cp W h0 h1 hk
  rw [hfst] at hfi
  have hnl : n < (T (oa, ob)).length := (List.getElem?_eq_some_iff.1 hr).1
  have HDEC := hid hdec
  have HFI := hid hfi
  have HR := hid hr
  have HM := hid hm
  have HT := hid ht
  have HOK := hid hok
  have HL := hid hL
  have HBLK := hid hblk
  have HOD := hid hod
  have HP := hid hp
  have HQ := hid hq
  clear hm ht hk hok hL hTR hp hq hc hblk hod hdec hfi hfst hn hr hal
  have hbl : wb < w.heap.size := (Array.getElem?_eq_some_iff.1 HBLK.out).1
  go_enter Tryz.func51, Tryz.ntmps51
  go_wp2_with fail
  have hbW : Below w.heap.size w ((w.alloc (.cells #[.pointer (some ⟨tb, 0, none⟩), .pointer (some ⟨rb, 0, none⟩)] 119)).alloc (.cells #[.int .i64 kd, .int .i64 on, .int .i64 oa, .int .i64 ob, .slice s4.a s4.n s4.c, .slice s5.a s5.n s5.c, .int .i64 k.src, .int .i64 k.dst, .int .i64 k.proto, .int .i64 k.port, .int .i64 d0, .int .i64 d1, .int .i64 d2, .int .i64 d3, .int .i64 q0, .int .i64 q1, .int .i64 q2, .int .i64 q3, .slice s18.a s18.n s18.c, .slice s19.a s19.n s19.c] 88)) := bel
  have hsW : ((w.alloc (.cells #[.pointer (some ⟨tb, 0, none⟩), .pointer (some ⟨rb, 0, none⟩)] 119)).alloc (.cells #[.int .i64 kd, .int .i64 on, .int .i64 oa, .int .i64 ob, .slice s4.a s4.n s4.c, .slice s5.a s5.n s5.c, .int .i64 k.src, .int .i64 k.dst, .int .i64 k.proto, .int .i64 k.port, .int .i64 d0, .int .i64 d1, .int .i64 d2, .int .i64 d3, .int .i64 q0, .int .i64 q1, .int .i64 q2, .int .i64 q3, .slice s18.a s18.n s18.c, .slice s19.a s19.n s19.c] 88)).heap.size = w.heap.size + 2 := by simp [World.size_alloc]
  have HR1 := rows_any c T tb oa ob ((w.alloc (.cells #[.pointer (some ⟨tb, 0, none⟩), .pointer (some ⟨rb, 0, none⟩)] 119)).alloc (.cells #[.int .i64 kd, .int .i64 on, .int .i64 oa, .int .i64 ob, .slice s4.a s4.n s4.c, .slice s5.a s5.n s5.c, .int .i64 k.src, .int .i64 k.dst, .int .i64 k.proto, .int .i64 k.port, .int .i64 d0, .int .i64 d1, .int .i64 d2, .int .i64 d3, .int .i64 q0, .int .i64 q1, .int .i64 q2, .int .i64 q3, .slice s18.a s18.n s18.c, .slice s19.a s19.n s19.c] 88)) (HT.out.to hbW) HM.out
  rw [hsW] at HR1
  refine HR1.mono ?_
  clear HR1
  generalize T (oa, ob) = l at *
  rintro e w1 ⟨⟨v, rfl, hown⟩, hb1⟩
  rw [← hsW] at hb1
  have s2 : w1.cell? ⟨w.heap.size + 1, 2, none⟩ = some (.int .i64 oa) := cell_to (w := ((w.alloc (.cells #[.pointer (some ⟨tb, 0, none⟩), .pointer (some ⟨rb, 0, none⟩)] 119)).alloc (.cells #[.int .i64 kd, .int .i64 on, .int .i64 oa, .int .i64 ob, .slice s4.a s4.n s4.c, .slice s5.a s5.n s5.c, .int .i64 k.src, .int .i64 k.dst, .int .i64 k.proto, .int .i64 k.port, .int .i64 d0, .int .i64 d1, .int .i64 d2, .int .i64 d3, .int .i64 q0, .int .i64 q1, .int .i64 q2, .int .i64 q3, .slice s18.a s18.n s18.c, .slice s19.a s19.n s19.c] 88))) (by simp [go_sem]) hb1
  have s3 : w1.cell? ⟨w.heap.size + 1, 3, none⟩ = some (.int .i64 ob) := cell_to (w := ((w.alloc (.cells #[.pointer (some ⟨tb, 0, none⟩), .pointer (some ⟨rb, 0, none⟩)] 119)).alloc (.cells #[.int .i64 kd, .int .i64 on, .int .i64 oa, .int .i64 ob, .slice s4.a s4.n s4.c, .slice s5.a s5.n s5.c, .int .i64 k.src, .int .i64 k.dst, .int .i64 k.proto, .int .i64 k.port, .int .i64 d0, .int .i64 d1, .int .i64 d2, .int .i64 d3, .int .i64 q0, .int .i64 q1, .int .i64 q2, .int .i64 q3, .slice s18.a s18.n s18.c, .slice s19.a s19.n s19.c] 88))) (by simp [go_sem]) hb1
  have s6 : w1.cell? ⟨w.heap.size + 1, 6, none⟩ = some (.int .i64 k.src) := cell_to (w := ((w.alloc (.cells #[.pointer (some ⟨tb, 0, none⟩), .pointer (some ⟨rb, 0, none⟩)] 119)).alloc (.cells #[.int .i64 kd, .int .i64 on, .int .i64 oa, .int .i64 ob, .slice s4.a s4.n s4.c, .slice s5.a s5.n s5.c, .int .i64 k.src, .int .i64 k.dst, .int .i64 k.proto, .int .i64 k.port, .int .i64 d0, .int .i64 d1, .int .i64 d2, .int .i64 d3, .int .i64 q0, .int .i64 q1, .int .i64 q2, .int .i64 q3, .slice s18.a s18.n s18.c, .slice s19.a s19.n s19.c] 88))) (by simp [go_sem]) hb1
  have s7 : w1.cell? ⟨w.heap.size + 1, 7, none⟩ = some (.int .i64 k.dst) := cell_to (w := ((w.alloc (.cells #[.pointer (some ⟨tb, 0, none⟩), .pointer (some ⟨rb, 0, none⟩)] 119)).alloc (.cells #[.int .i64 kd, .int .i64 on, .int .i64 oa, .int .i64 ob, .slice s4.a s4.n s4.c, .slice s5.a s5.n s5.c, .int .i64 k.src, .int .i64 k.dst, .int .i64 k.proto, .int .i64 k.port, .int .i64 d0, .int .i64 d1, .int .i64 d2, .int .i64 d3, .int .i64 q0, .int .i64 q1, .int .i64 q2, .int .i64 q3, .slice s18.a s18.n s18.c, .slice s19.a s19.n s19.c] 88))) (by simp [go_sem]) hb1
  have s8 : w1.cell? ⟨w.heap.size + 1, 8, none⟩ = some (.int .i64 k.proto) := cell_to (w := ((w.alloc (.cells #[.pointer (some ⟨tb, 0, none⟩), .pointer (some ⟨rb, 0, none⟩)] 119)).alloc (.cells #[.int .i64 kd, .int .i64 on, .int .i64 oa, .int .i64 ob, .slice s4.a s4.n s4.c, .slice s5.a s5.n s5.c, .int .i64 k.src, .int .i64 k.dst, .int .i64 k.proto, .int .i64 k.port, .int .i64 d0, .int .i64 d1, .int .i64 d2, .int .i64 d3, .int .i64 q0, .int .i64 q1, .int .i64 q2, .int .i64 q3, .slice s18.a s18.n s18.c, .slice s19.a s19.n s19.c] 88))) (by simp [go_sem]) hb1
  have s9 : w1.cell? ⟨w.heap.size + 1, 9, none⟩ = some (.int .i64 k.port) := cell_to (w := ((w.alloc (.cells #[.pointer (some ⟨tb, 0, none⟩), .pointer (some ⟨rb, 0, none⟩)] 119)).alloc (.cells #[.int .i64 kd, .int .i64 on, .int .i64 oa, .int .i64 ob, .slice s4.a s4.n s4.c, .slice s5.a s5.n s5.c, .int .i64 k.src, .int .i64 k.dst, .int .i64 k.proto, .int .i64 k.port, .int .i64 d0, .int .i64 d1, .int .i64 d2, .int .i64 d3, .int .i64 q0, .int .i64 q1, .int .i64 q2, .int .i64 q3, .slice s18.a s18.n s18.c, .slice s19.a s19.n s19.c] 88))) (by simp [go_sem]) hb1
  have p0 : w1.cell? ⟨w.heap.size, 0, none⟩ = some (.pointer (some ⟨tb, 0, none⟩)) := cell_to (w := ((w.alloc (.cells #[.pointer (some ⟨tb, 0, none⟩), .pointer (some ⟨rb, 0, none⟩)] 119)).alloc (.cells #[.int .i64 kd, .int .i64 on, .int .i64 oa, .int .i64 ob, .slice s4.a s4.n s4.c, .slice s5.a s5.n s5.c, .int .i64 k.src, .int .i64 k.dst, .int .i64 k.proto, .int .i64 k.port, .int .i64 d0, .int .i64 d1, .int .i64 d2, .int .i64 d3, .int .i64 q0, .int .i64 q1, .int .i64 q2, .int .i64 q3, .slice s18.a s18.n s18.c, .slice s19.a s19.n s19.c] 88))) (by simp [go_sem]) hb1
  have p1 : w1.cell? ⟨w.heap.size, 1, none⟩ = some (.pointer (some ⟨rb, 0, none⟩)) := cell_to (w := ((w.alloc (.cells #[.pointer (some ⟨tb, 0, none⟩), .pointer (some ⟨rb, 0, none⟩)] 119)).alloc (.cells #[.int .i64 kd, .int .i64 on, .int .i64 oa, .int .i64 ob, .slice s4.a s4.n s4.c, .slice s5.a s5.n s5.c, .int .i64 k.src, .int .i64 k.dst, .int .i64 k.proto, .int .i64 k.port, .int .i64 d0, .int .i64 d1, .int .i64 d2, .int .i64 d3, .int .i64 q0, .int .i64 q1, .int .i64 q2, .int .i64 q3, .slice s18.a s18.n s18.c, .slice s19.a s19.n s19.c] 88))) (by simp [go_sem]) hb1
  have HB1 := hid (show Below w.heap.size w w1 from Ext.trans (show Below w.heap.size w ((w.alloc (.cells #[.pointer (some ⟨tb, 0, none⟩), .pointer (some ⟨rb, 0, none⟩)] 119)).alloc (.cells #[.int .i64 kd, .int .i64 on, .int .i64 oa, .int .i64 ob, .slice s4.a s4.n s4.c, .slice s5.a s5.n s5.c, .int .i64 k.src, .int .i64 k.dst, .int .i64 k.proto, .int .i64 k.port, .int .i64 d0, .int .i64 d1, .int .i64 d2, .int .i64 d3, .int .i64 q0, .int .i64 q1, .int .i64 q2, .int .i64 q3, .slice s18.a s18.n s18.c, .slice s19.a s19.n s19.c] 88)) from bel) hb1)
  have t0 := cell_to r0 HB1.out
  have t1 := cell_to r1 HB1.out
  have hs1 := hb1.size
  rw [hsW] at hs1
  obtain ⟨ra, rc, rfl, hrc, hrr⟩ := own_rows hown (by omega)
  have HOWN := hid hown
  have HRR := hid hrr
  clear hb1 hbW hown hrr hsW r0 r1
  go_wp2_with fail
  refine (HDEC.out w1 t0 t1 (rdPods.to HP.out HB1.out) (rdPols.to HQ.out HB1.out)).mono ?_
  rintro e w2 ⟨rfl, hb2⟩
  have hs2 := hb2.size
  have HB2 := hid (Ext.trans HB1.out hb2)
  have HOWN2 := hid (own_to HOWN.out hb2)
  have HRR2 := hid (rdRows.to HRR.out hb2)
  have y6 := cell_to s6 hb2
  have y7 := cell_to s7 hb2
  have y8 := cell_to s8 hb2
  have y9 := cell_to s9 hb2
  clear s2 s3 s6 s7 s8 s9 p0 p1 hb2 t0 t1
  go_wp2_with fail
  refine (table_any l L ra rc w2 HRR2.out HOK.out HL.out (by omega)).mono ?_
  rintro e w3 ⟨rfl, hb3⟩
  have hs3 := hb3.size
  have HB3 := hid (Ext.trans HB2.out hb3)
  have HOWN3 := hid (own_to HOWN2.out hb3)
  have HRR3 := hid (rdRows.to HRR2.out hb3)
  have x6 := cell_to y6 hb3
  have x7 := cell_to y7 hb3
  have x8 := cell_to y8 hb3
  have x9 := cell_to y9 hb3
  clear hb3 y6 y7 y8 y9
  go_wp2_with fail
  refine (num_any 0 _).mono ?_
  rintro e w4 ⟨rfl, rfl⟩
  go_wp2_with fail
  refine (HFI.out w4 ra rc HRR3.out HOK.out).mono ?_
  rintro e w5 ⟨rfl, hb5⟩
  have hs5 := hb5.size
  have HB5 := hid (Ext.trans HB3.out hb5)
  have HOWN5 := hid (own_to HOWN3.out hb5)
  obtain ⟨b, off, rfl, hbb, c0, c1, c2, c3, c4, c5, c6, c7⟩ := (rdRows.to HRR3.out hb5).2 n r HR.out
  have zn : (n : Int) < (l.length : Int) := by omega
  clear hb5 x6 x7 x8 x9
  clear c0 c1 c2 c3 c4 c5 c6
  generalize r.allow = ra0 at *
  go_wp2_with fail
  refine (keep_any wb B (w.heap.size + 2) vl vd _ Ds l.length _ w5 ((HB5.out.block wb hbl).trans HBLK.out) (own_to HOD.out HB5.out) hDl HOWN5.out (by omega) hBw (by omega) (fun g hg => by have := HOD.out.lt g hg; omega) (by omega) (by omega)).mono ?_
  rintro e w6 ⟨rfl, hkept⟩
  have HKP := hid hkept
  clear hkept
  go_wp2
  go_ret
  exact ⟨rfl, w5, _, _, HB5.out, by omega, fun g hg => by have := HOWN5.out.lt g hg; omega, HKP.out⟩
end Go.Proofs.YtmkjlhplgcifiaaGreat
