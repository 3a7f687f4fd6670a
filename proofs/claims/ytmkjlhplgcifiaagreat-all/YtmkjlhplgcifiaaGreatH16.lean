/-
  The library's sort, at rows, lies in this program as the shelf knows it.
-/
import Derived.Test.YtmkjlhplgcifiaaGreatH12
import Derived.Test.YtmkjlhplgcifiaaGreatH13
import Derived.Test.YtmkjlhplgcifiaaGreatH09
import Derived.Test.YtmkjlhplgcifiaaGreatH07
import Derived.Test.YtmkjlhplgcifiaaGreatH01
import Derived.Test.YtmkjlhplgcifiaaGreatRows
import Derived.Shelf.SlSortCmp.WholeK
import Derived.Shelf.SlSortCmp.NoneTotal
import Derived.Laws.StructEq
namespace Go.Proofs.YtmkjlhplgcifiaaGreat
open Go.Shelf
def sortRow_ren : Go.Shelf.Ren := ⟨fun | 6 => 178 | 15 => 185 | 14 => 184 | 28 => 195 | 29 => 196 | 20 => 187 | 21 => 188 | 22 => 189 | 23 => 190 | 24 => 191 | 25 => 192 | 26 => 193 | 27 => 194 | 46 => 197 | 47 => 198 | 48 => 199 | 49 => 200 | 50 => 201 | 57 => 202 | n => n, fun | 22 => 40 | 24 => 49 | 25 => 211 | 3 => 3 | 39 => 233 | 0 => 0 | 53 => 243 | 55 => 245 | 4 => 4 | 46 => 236 | 45 => 235 | 50 => 240 | 5 => 5 | 9 => 9 | 66 => 246 | 70 => 250 | 76 => 252 | 77 => 139 | n => n, fun | n => n⟩
theorem sortRow : Go.Proofs.SlLaysF0.n6 Tryz.prog sortRow_ren :=
  { mixed := by kernel_rfl,
    f6 := ⟨Tryz.f178.name, by decide, Tryz.func178.trans (congrArg some (by kernel_rfl))⟩,
    f14 := ⟨Tryz.f184.name, by decide, Tryz.func184.trans (congrArg some (by kernel_rfl))⟩,
    f15 := Tryz.func185.trans (congrArg some (by kernel_rfl)),
    f20 := ⟨Tryz.f187.name, by decide, Tryz.func187.trans (congrArg some (by kernel_rfl))⟩,
    f21 := ⟨Tryz.f188.name, by decide, Tryz.func188.trans (congrArg some (by kernel_rfl))⟩,
    f22 := ⟨Tryz.f189.name, by decide, Tryz.func189.trans (congrArg some (by kernel_rfl))⟩,
    f23 := ⟨Tryz.f190.name, by decide, Tryz.func190.trans (congrArg some (by kernel_rfl))⟩,
    f24 := ⟨Tryz.f191.name, by decide, Tryz.func191.trans (congrArg some (by kernel_rfl))⟩,
    f25 := ⟨Tryz.f192.name, by decide, Tryz.func192.trans (congrArg some (by kernel_rfl))⟩,
    f26 := ⟨Tryz.f193.name, by decide, Tryz.func193.trans (congrArg some (by kernel_rfl))⟩,
    f27 := ⟨Tryz.f194.name, by decide, Tryz.func194.trans (congrArg some (by kernel_rfl))⟩,
    f28 := Tryz.func195.trans (congrArg some (by kernel_rfl)),
    f29 := Tryz.func196.trans (congrArg some (by kernel_rfl)),
    f46 := ⟨Tryz.f197.name, by decide, Tryz.func197.trans (congrArg some (by kernel_rfl))⟩,
    f47 := Tryz.func198.trans (congrArg some (by kernel_rfl)),
    f48 := Tryz.func199.trans (congrArg some (by kernel_rfl)),
    f49 := ⟨Tryz.f200.name, by decide, Tryz.func200.trans (congrArg some (by kernel_rfl))⟩,
    f50 := ⟨Tryz.f201.name, by decide, Tryz.func201.trans (congrArg some (by kernel_rfl))⟩,
    f57 := ⟨Tryz.f202.name, by decide, Tryz.func202.trans (congrArg some (by kernel_rfl))⟩,
    t0 := Tryz.underlying0,
    a0 := Tryz.isAgg0,
    z0 := Tryz.sizeOf0,
    v0 := Tryz.zeroValue0,
    t3 := Tryz.underlying3,
    a3 := Tryz.isAgg3,
    z3 := Tryz.sizeOf3,
    v3 := Tryz.zeroValue3,
    t4 := Tryz.underlying4,
    a4 := Tryz.isAgg4,
    z4 := Tryz.sizeOf4,
    v4 := Tryz.zeroValue4,
    t5 := Tryz.underlying5,
    a5 := Tryz.isAgg5,
    z5 := Tryz.sizeOf5,
    v5 := Tryz.zeroValue5,
    t9 := Tryz.underlying9,
    a9 := Tryz.isAgg9,
    z9 := Tryz.sizeOf9,
    v9 := Tryz.zeroValue9,
    t22 := Tryz.underlying40,
    a22 := Tryz.isAgg40,
    z22 := Tryz.sizeOf40,
    v22 := Tryz.zeroValue40,
    t25 := Tryz.underlying211,
    a25 := Tryz.isAgg211,
    z25 := Tryz.sizeOf211,
    v25 := Tryz.zeroValue211,
    t39 := Tryz.underlying233,
    a39 := Tryz.isAgg233,
    z39 := Tryz.sizeOf233,
    v39 := Tryz.zeroValue233,
    t45 := Tryz.underlying235,
    a45 := Tryz.isAgg235,
    z45 := Tryz.sizeOf235,
    v45 := Tryz.zeroValue235,
    t46 := Tryz.underlying236,
    a46 := Tryz.isAgg236,
    z46 := Tryz.sizeOf236,
    v46 := Tryz.zeroValue236,
    t50 := Tryz.underlying240,
    a50 := Tryz.isAgg240,
    z50 := Tryz.sizeOf240,
    v50 := Tryz.zeroValue240,
    t53 := Tryz.underlying243,
    a53 := Tryz.isAgg243,
    z53 := Tryz.sizeOf243,
    v53 := Tryz.zeroValue243,
    t55 := Tryz.underlying245,
    a55 := Tryz.isAgg245,
    z55 := Tryz.sizeOf245,
    v55 := Tryz.zeroValue245,
    t66 := Tryz.underlying246,
    a66 := Tryz.isAgg246,
    z66 := Tryz.sizeOf246,
    v66 := Tryz.zeroValue246,
    t70 := Tryz.underlying250,
    a70 := Tryz.isAgg250,
    z70 := Tryz.sizeOf250,
    v70 := Tryz.zeroValue250,
    t76 := Tryz.underlying252,
    a76 := Tryz.isAgg252,
    z76 := Tryz.sizeOf252,
    v76 := Tryz.zeroValue252,
    t77 := Tryz.underlying139,
    a77 := Tryz.isAgg139,
    z77 := Tryz.sizeOf139,
    v77 := Tryz.zeroValue139 }
end Go.Proofs.YtmkjlhplgcifiaaGreat
namespace Go.Proofs.YtmkjlhplgcifiaaGreat
open Go.ChangeShapes Go.WideShapes Go.ChangeAt Go.RowKit
set_option linter.unusedVariables false
set_option linter.unusedSimpArgs false
abbrev rowInh : Inhabited DRow := ⟨⟨0, 0, 0, 0, 0, 0, 0, false⟩⟩
theorem encRow_len (x : DRow) : (encRow x).length = 8 := rfl
theorem encRow_one (x : DRow) : ∀ v ∈ encRow x, v.oneCell' = true := by
  intro v hv
  simp [encRow] at hv
  rcases hv with rfl | rfl | rfl | rfl | rfl | rfl | rfl | rfl <;> rfl
theorem cmpLays_row (blk off size : Nat) (w : World) : letI := rowInh; Go.Proofs.CmpLays Tryz.prog 165 #[] encRow 8 cmpRow blk off size w := by
  letI := rowInh
  intro m os dk _ x y
  exact cmpRow_any x y _
theorem holds_own {w : World} {base g cap : Nat} {e : TypeId} {l : List DRow} (ho : w.ownsRow base e 8 (.slice (some ⟨g, 0, none⟩) l.length cap) l.length (l.flatMap encRow)) : letI := rowInh; Go.Sort.HoldsK encRow 8 w g 0 l.toArray := by
  letI := rowInh
  intro j hj
  have hj' : j < l.length * 8 := by simpa using hj
  have hi : j / 8 < l.length := by omega
  have hx : l[j / 8]? = some l[j / 8] := List.getElem?_eq_getElem hi
  have hm : j % 8 < 8 := Nat.mod_lt _ (by omega)
  have h1 := oflat_get (k := 8) encRow_len l (j / 8) l[j / 8] (j % 8) hx hm
  have h2 : j / 8 * 8 + j % 8 = j := Nat.div_add_mod' j 8
  rw [h2] at h1
  obtain ⟨u, hu⟩ : ∃ u, (encRow l[j / 8])[j % 8]? = some u := ⟨(encRow l[j / 8])[j % 8]'(by rw [encRow_len]; exact hm), List.getElem?_eq_getElem (by rw [encRow_len]; exact hm)⟩
  have hfl : id (Go.Sort.flatK encRow 8 l.toArray)[j]! = u := by
    rw [id, Go.Sort.get_flatK _ _ _ _ hj']
    rw [getElem!_pos l.toArray (j / 8) (by simpa using hi)]
    rw [List.getElem!_eq_getElem?_getD]
    simp only [List.getElem_toArray]
    rw [hu]; rfl
  have hcell := ho.cells (g := g) rfl j u (h1.trans hu)
  rw [show ((⟨g, 0, none⟩ : Addr).add j) = ⟨g, j, none⟩ by unfold Addr.add; split <;> simp_all] at hcell
  rw [hfl, Nat.zero_add]
  refine ⟨hcell, ?_⟩
  rcases ho.2 with ⟨h, _⟩ | ⟨g', cap', cur, h, _, hb, _⟩
  · cases h
  · cases h
    simp [World.frozen?, hb]
theorem perm_of_in {d d' : Array DRow} (h : letI := rowInh; Go.Sort.PermIn 0 d.size d d') : d'.toList.Perm d.toList := by
  obtain ⟨hs, _, hp⟩ := h
  have e1 : d'.extract 0 d.size = d' := by rw [← hs]; exact Array.extract_size
  have e2 : d.extract 0 d.size = d := Array.extract_size
  rwa [e1, e2] at hp
theorem sorted_grown {w : World} {g n : Nat} {os : Array Obj} (d : Array DRow) : letI := rowInh; w.grownBy (sortWorldK encRow 8 w g 0 n d os) (some g) := by
  letI := rowInh
  refine ⟨rfl, rfl, rfl, by simp [sortWorldK, Go.Sort.putRowK, Go.Sort.putRow, Go.Sort.mapBlock, Go.Sort.ahead, Go.Sort.grow], fun k hk hne => ?_⟩
  have hgk : g ≠ k := fun e => hne (by rw [e])
  unfold sortWorldK
  rw [Go.Sort.heap_grow_old _ _ (by simpa [Go.Sort.putRowK, Go.Sort.putRow, Go.Sort.mapBlock, Go.Sort.ahead] using hk)]
  simp [Go.Sort.putRowK, Go.Sort.putRow, Go.Sort.mapBlock, Go.Sort.ahead, Array.getElem?_modify, hgk]
theorem sortRows_any (l : List DRow) (base g cap : Nat) (w : World) (ho : w.ownsRow base 49 8 (.slice (some ⟨g, 0, none⟩) l.length cap) l.length (l.flatMap encRow)) (hB : base ≤ w.heap.size) (hl : l.length * 64 ≤ 140737488351232) :
    Calls Tryz.prog 178 #[.slice (some ⟨g, 0, none⟩) l.length cap, .func (.func 165) #[] #[]] w fun e w' => e = .returned (.tuple #[]) ∧ ∃ l', l'.Perm l ∧ rdRows w'.heap.size w' (some ⟨g, 0, none⟩) l' ∧ Below base w w' := by
  letI := rowInh
  have hg := ho.lt g rfl
  have eg : ∀ args w, (callFunc 165 args).run Tryz.prog w = .ok (.enter 165 args) w := enters_of Tryz.func165 (by kernel_rfl) rfl
  have hH := holds_own ho
  have hcon := AnyQ.slices_SortFunc sortRow 8 Tryz.isAgg49 Tryz.sizeOf49 encRow encRow_len encRow_one cmpRow swoRow 165 #[] g 0 cap l.toArray w eg (cmpLays_row g 0 _ w) hH hg.2 (by simp; omega)
  have hcon' : Calls Tryz.prog 178 #[.slice (some ⟨g, 0, none⟩) l.length cap, .func (.func 165) #[] #[]] w _ := hcon
  refine hcon'.mono ?_
  rintro e w' ⟨rfl, d', n, os, hp, _, hw⟩
  have hsz : d'.size = l.toArray.size := hp.1
  have hgr : w.grownBy w' (some g) := by rw [hw]; exact sorted_grown d'
  have hH' : Go.Sort.HoldsK encRow 8 w' g 0 d' := Go.Proofs.SWK.holds ⟨n, os, hw⟩ hg.2 hH hsz
  have hpl : d'.toList.Perm l := perm_of_in hp
  refine ⟨rfl, d'.toList, hpl, ⟨by rw [hpl.length_eq]; exact hl, fun i x hx => ⟨g, 0, rfl, Nat.lt_of_lt_of_le hg.2 hgr.size, ?_⟩⟩, (Below.refl base w).grown hgr hB (fun k hk => by cases hk; exact hg.1)⟩
  obtain ⟨hi, hxi⟩ := List.getElem?_eq_some_iff.1 hx
  have hi' : i < d'.size := by simpa using hi
  have hc := fun c v (hv : (encRow x)[c]? = some v) => Go.Proofs.HoldsK.cells hH' encRow_len hi' c v (by rw [getElem!_pos d' i hi']; simpa [← hxi] using hv)
  have hc' : ∀ c v, (encRow x)[c]? = some v → w'.cell? ⟨g, 0 + i * 8 + c, none⟩ = some v := fun c v hv => by
    have := hc c v hv
    rwa [show ((⟨g, 0 + i * 8, none⟩ : Addr).add c) = ⟨g, 0 + i * 8 + c, none⟩ by unfold Addr.add; split <;> simp_all] at this
  exact ⟨hc' 0 _ rfl, hc' 1 _ rfl, hc' 2 _ rfl, hc' 3 _ rfl, hc' 4 _ rfl, hc' 5 _ rfl, hc' 6 _ rfl, hc' 7 _ rfl⟩
theorem sortNone_any (p : Option Addr) (cap : Nat) (fv : Value) (w : World) : Calls Tryz.prog 178 #[.slice p 0 cap, fv] w fun e w' => e = .returned (.tuple #[]) ∧ w' = w := AnyF.slices_SortFunc_none sortRow p cap fv w
theorem sortedFunc_any (a : Option Addr) (cap Bs : Nat) (zs : List DRow) (w : World) (hBs : w.cell? ⟨Bs, 0, none⟩ = some (.slice a zs.length cap)) (hc : rdRows w.heap.size w a zs) :
    Calls Tryz.prog 163 #[.func (.func 179) #[] #[.pointer (some ⟨Bs, 0, none⟩)], .func (.func 165) #[] #[]] w fun e w' => (∃ a' c' l', e = .returned (.slice a' l'.length c') ∧ l'.Perm zs ∧ rdRows w'.heap.size w' a' l') ∧ Below w.heap.size w w' := by
  have HC := hid hc
  have hlen := hc.1
  clear hc
  cases zs with
  | nil =>
    go_enter Tryz.func163, Tryz.ntmps163
    go_wp2_with (first
      | (go_at_call 177; refine (collect_any a cap Bs [] _ hBs HC.out).mono ?_; rintro e w1 ⟨v, rfl, ho, hb1⟩; obtain ⟨a1, c1, rfl, _, _⟩ := own_slice ho; clear ho)
      | (go_at_call 178; refine (sortNone_any _ _ _ _).mono ?_; rintro e w2 ⟨rfl, rfl⟩))
    go_ret
    exact ⟨⟨a1, c1, [], rfl, List.Perm.refl _, by simp, fun i x hx => by simp at hx⟩, hb1⟩
  | cons z t =>
    have hne : (z :: t).length = t.length + 1 := rfl
    go_enter Tryz.func163, Tryz.ntmps163
    go_wp2_with (first
      | (go_at_call 177; refine (collect_any a cap Bs (z :: t) _ hBs HC.out).mono ?_; rintro e w1 ⟨v, rfl, ho, hb1⟩; obtain ⟨g1, c1, rfl⟩ := ownsRow_succ (k := t.length) ho; have HO := hid ho; clear ho)
      | (go_at_call 178; refine (sortRows_any (z :: t) w.heap.size g1 c1 _ HO.out hb1.size hlen).mono ?_; rintro e w2 ⟨rfl, l', hp, hr, hb2⟩; have HP := hid hp; have HR := hid hr; clear hp hr))
    go_ret
    exact ⟨⟨_, c1, l', by rw [HP.out.length_eq]; rfl, HP.out, HR.out⟩, hb1.trans hb2⟩
end Go.Proofs.YtmkjlhplgcifiaaGreat
namespace Go.Proofs.YtmkjlhplgcifiaaGreat
open Go.ChangeShapes Go.WideShapes Go.ChangeAt Go.RowKit
set_option linter.unusedVariables false
set_option linter.unusedSimpArgs false
attribute [local simp] World.cell?_grow World.cell?_alloc_there
attribute [local go_sem] World.cell?_grow World.cell?_alloc_there eqg_blk std_blk eqg_pod std_pod eqg_sel std_sel eqg_prt std_prt
attribute [local go_sem ↓] eql_blk eql_sel neq_sel eql_prt eql_pod met_in1 met_in2 met_re1 met_re2 met_has1 met_has2 met_bl1 met_bl2
theorem own_at {α : Type} {w : World} {base : Nat} {e : TypeId} {k n c : Nat} {a : Option Addr} {l : List α} {enc : α → List Value} (hk : ∀ x, (enc x).length = k) (hp : 0 < k) (h : w.ownsRow base e k (.slice a n c) n (l.flatMap enc)) :
    ∀ i x, l[i]? = some x → ∃ b off, a = some ⟨b, off, none⟩ ∧ base ≤ b ∧ b < w.heap.size ∧ ∀ j u, (enc x)[j]? = some u → w.cell? ⟨b, off + i * k + j, none⟩ = some u := by
  obtain ⟨a', c', e', _, hc⟩ := own_slice h
  cases e'
  intro i x hx
  obtain ⟨u0, hu0⟩ : ∃ u, (enc x)[0]? = some u := ⟨(enc x)[0]'(by rw [hk]; exact hp), List.getElem?_eq_getElem (by rw [hk]; exact hp)⟩
  obtain ⟨b, rfl, hb, hb2, _⟩ := hc _ u0 ((oflat_get hk l i x 0 hx hp).trans hu0)
  refine ⟨b, 0, rfl, hb, hb2, fun j u hj => ?_⟩
  have hjk : j < k := by rw [← hk x]; exact (List.getElem?_eq_some_iff.1 hj).1
  obtain ⟨b', e', _, _, h'⟩ := hc _ u ((oflat_get hk l i x j hx hjk).trans hj)
  cases e'
  rw [Nat.zero_add]; exact h'
theorem own_snoc {α : Type} {w : World} {base : Nat} {e : TypeId} {k : Nat} {v : Value} {l : List α} {x : α} {enc : α → List Value} (h : w.ownsRow base e k v (l.length + 1) (l.flatMap enc ++ enc x)) : w.ownsRow base e k v (l ++ [x]).length ((l ++ [x]).flatMap enc) := by
  simpa using h
theorem cell_new_list2 (w : World) (o : Obj) (cs : List Value) (t : TypeId) : ∀ j u, cs[j]? = some u → ((w.alloc o).alloc (.cells cs.toArray t)).cell? ((⟨w.heap.size + 1, 0, none⟩ : Addr).add j) = some u := by
  have := cell_new_list (w.alloc o) cs t
  rwa [World.size_alloc] at this
structure DGap where
  far : DBlk
  port : DPort
def encGap (g : DGap) : List Value := [.int .i64 g.far.base, .int .i64 g.far.bits, .int .i64 g.port.proto, .int .i64 g.port.lo, .int .i64 g.port.hi]
def fgaps (r : DRule) (f : DBlk) : List DGap := (dports r).map fun p => ⟨f, p⟩
def rgaps (pods : List DPod) (space : Int) (r : DRule) : List DGap := (dfars pods space r).flatMap (fgaps r)
def gapsOf (pods : List DPod) (way : Int) (q : DPol) : List DGap := (rulesOf q way).flatMap (rgaps pods q.space)
theorem info_gap : (Tryz.prog.info? 187).map (fun i => (i.zero, i.size, i.bytes)) = some (some (.agg #[.int .i64 0, .int .i64 0, .int .i64 0, .int .i64 0, .int .i64 0]), 5, 40) := by kernel_rfl
theorem dports_le {r : DRule} (h : rulOk r = true) : (dports r).length ≤ 2 := by
  unfold dports
  split
  · simp
  · exact (rulOk_lens h).2
theorem dfars_le {pods : List DPod} {space : Int} {r : DRule} (h : rulOk r = true) (hpl : pods.length ≤ 8) : (dfars pods space r).length ≤ 130 := by
  unfold dfars
  split
  · simp
  · have := take_flat_le (space := space) (rulOk_true h).1 hpl (rulOk_lens h).1 r.peers.length
    rwa [List.take_length] at this
theorem fgaps_le {r : DRule} (h : rulOk r = true) (f : DBlk) : (fgaps r f).length ≤ 2 := by unfold fgaps; rw [List.length_map]; exact dports_le h
theorem rgaps_le {pods : List DPod} {space : Int} {r : DRule} (h : rulOk r = true) (hpl : pods.length ≤ 8) : (rgaps pods space r).length ≤ 260 := by
  have h1 := flatMap_le (f := fgaps r) (m := 2) (dfars pods space r) (fun f _ => fgaps_le h f)
  have h2 := dfars_le (space := space) h hpl
  unfold rgaps; omega
theorem gaps_pre {l : List DRule} {pods : List DPod} {space : Int} (h : ∀ r ∈ l, rulOk r = true) (hpl : pods.length ≤ 8) (k : Nat) : ((l.take k).flatMap (rgaps pods space)).length ≤ k * 260 := by
  have h1 := flatMap_le (f := rgaps pods space) (m := 260) (l.take k) (fun r hr => rgaps_le (h r (List.mem_of_mem_take hr)) hpl)
  have h2 : (l.take k).length ≤ k := by rw [List.length_take]; omega
  exact Nat.le_trans h1 (Nat.mul_le_mul_right 260 h2)
theorem gap_sum {P F S : List DGap} {k n j m t d : Nat} (hk : k < n) (hn : n ≤ 2) (hP : P.length ≤ k * 260) (hF : F.length ≤ min j m * 2) (hm : m ≤ 130) (hS : S.length = min t d) (hd : d ≤ 2) : ((P ++ F) ++ S).length + 1 ≤ 600 := by
  rw [List.length_append, List.length_append]; omega
theorem polOk_outs_len {p : DPol} (h : polOk p = true) : p.outs.length ≤ 2 := by simp only [polOk, rulesOk, few, Bool.and_eq_true, decide_eq_true_eq] at h; exact Int.ofNat_le.1 h.1.2.1.1
theorem polOk_ins_len {p : DPol} (h : polOk p = true) : p.ins.length ≤ 2 := by simp only [polOk, rulesOk, few, Bool.and_eq_true, decide_eq_true_eq] at h; exact Int.ofNat_le.1 h.2.1.1
set_option maxRecDepth 100000 in
set_option maxHeartbeats 4000000 in
theorem gaps_out (q : DPol) (oa ia : Option Addr) (oc ic : Nat) (sa : Option Addr) (pods : List DPod) (sc : Nat) (w : World) (hr : rdRules w.heap.size w oa q.outs) (hd : rdPods w.heap.size w sa pods) (ho : podsOk pods) (hpl : pods.length ≤ 8) (hq : polOk q = true) :
    Calls Tryz.prog 134 #[.agg #[.int .i64 q.space, .int .i64 q.need, .int .i64 q.ban, .int .i64 q.ways, .slice oa q.outs.length oc, .slice ia q.ins.length ic], .int .i64 1, .slice sa pods.length sc] w
      fun e w' => (∃ v, e = .returned v ∧ w'.ownsRow w.heap.size 187 5 v (gapsOf pods 1 q).length ((gapsOf pods 1 q).flatMap encGap)) ∧ Below w.heap.size w w' := by
  have HF := hid (show gapsOf pods 1 q = q.outs.flatMap (rgaps pods q.space) from rfl)
  have HR := hid hr
  have HD := hid hd
  have HO := hid ho
  have HQ := hid (polOk_outs hq)
  have hrl := polOk_outs_len hq
  have hlen := hr.1
  have h0 := (btw_true.1 (polOk_space hq)).1
  have h1 := (btw_true.1 (polOk_space hq)).2
  rw [HF.out]
  clear hr hd ho hq
  obtain ⟨i0, hi, iz0, iz1, iz2⟩ := info_parts info_gap
  go_enter Tryz.func134, Tryz.ntmps134
  go_wp2_with (go_at_call 127; refine (rules_out q _ _ _ _ _).mono ?_; rintro e w1 ⟨rfl, hb1⟩; obtain ⟨hc1, hf1⟩ := bcell hb1; have hz1 := hb_lt hb1)
  have hBa : Below w.heap.size w w1 := bel
  have s0 : w1.cell? ⟨w.heap.size + 1, 0, none⟩ = some (.int .i64 q.space) := cell_to (by simp [go_sem]) hb1
  have s1 : w1.cell? ⟨w.heap.size + 1, 1, none⟩ = some (.slice sa pods.length sc) := cell_to (by simp [go_sem]) hb1
  have HBa := hid hBa
  have hWs := hBa.size
  clear hBa hb1 hc1 hf1 hz1
  go_loopw [8, 23] (fun kv i wr => ∃ k : Nat, k ≤ q.outs.length ∧ i = .int .i64 k ∧ wr.ownsRow w1.heap.size 187 5 kv ((q.outs.take k).flatMap (rgaps pods q.space)).length (((q.outs.take k).flatMap (rgaps pods q.space)).flatMap encGap) ∧ Below w1.heap.size w1 wr) (fun _ i _ => q.outs.length - (intOf i).toNat)
  case atStart => exact ⟨0, Nat.zero_le _, rfl, World.ownsRow_nil _ _ _ _, Below.refl _ _⟩
  case round =>
    obtain ⟨k, hk, rfl, hown, hbw⟩ := hrel
    obtain ⟨kv0, hkv⟩ : ∃ v, v = u8 := ⟨_, rfl⟩
    obtain ⟨wa, hwa⟩ : ∃ wa, wa = wr := ⟨_, rfl⟩
    subst hkv hwa
    have HO2 := hid hown
    have HBW := hid hbw
    have HB := hid (show Below w.heap.size w wa from HBa.out.trans (hbw.mono hWs))
    have hwa := hbw.size
    clear hown
    by_cases hlt : k < q.outs.length
    · obtain ⟨r, hxk⟩ : ∃ r, q.outs[k]? = some r := ⟨q.outs[k], by simp [hlt]⟩
      have HX := hid hxk
      have hro := HQ.out r (List.mem_of_getElem? hxk)
      have HRO := hid hro
      have HT := hid (take_flat (f := rgaps pods q.space) hxk)
      have hP := gaps_pre (pods := pods) (space := q.space) HQ.out hpl k
      have hfl := dfars_le (space := q.space) hro hpl
      have hpo := dports_le hro
      clear hxk hro
      obtain ⟨b, off, rfl, hb, ⟨pa, pc, c0, hrp⟩, qa, qc, c1, hrq⟩ := HR.out.2 k r HX.out
      have d0 := cell_to c0 HB.out
      have d1 := cell_to c1 HB.out
      have t0 := cell_to s0 hbw
      have t1 := cell_to s1 hbw
      have HRP := hid hrp
      have HRQ := hid hrq
      clear hrp hrq c0 c1
      go_wp2_with (go_at_call 161; refine (fars_any r _ _ _ _ _ _ pods _ _ (rdPeers.ext (HB.out.alloc HB.out.size _) (by have := HB.out.size; simp; omega) HRP.out) (rdPods.ext (HB.out.alloc HB.out.size _) (by have := HB.out.size; simp; omega) HD.out) HO.out hpl HRO.out h0 h1).mono ?_; rintro e w2 ⟨⟨v2, rfl, ho2⟩, hb2⟩; obtain ⟨fa, fc, rfl, _, hfr⟩ := own_slice ho2; have HO3 := hid ho2; have HFR := hid hfr; have HK := hid (own_to (HO2.out.alloc (.cells #[.slice pa r.peers.length pc, .slice qa r.ports.length qc] 64)) hb2); have b0 : w2.cell? ⟨wa.heap.size, 0, none⟩ = some (.slice pa r.peers.length pc) := cell_to (by simp [go_sem]) hb2; have b1 : w2.cell? ⟨wa.heap.size, 1, none⟩ = some (.slice qa r.ports.length qc) := cell_to (by simp [go_sem]) hb2; have hs2 := hb2.size; have HB2 := hid (show Below wa.heap.size wa w2 from ((Below.refl _ wa).alloc (Nat.le_refl _) _).trans (hb2.mono (by simp))); clear ho2 hfr hb2)
      simp only [World.size_alloc] at hs2 HO3 HFR
      have HB3 := hid (show Below w.heap.size w w2 from HB.out.trans (HB2.out.mono (by have := HB.out.size; omega)))
      clear d0 d1 t0 t1
      -- the far ends
      go_loopw [8, 31] (fun kv i wq => ∃ j : Nat, j ≤ (dfars pods q.space r).length ∧ i = .int .i64 j ∧ wq.ownsRow w1.heap.size 187 5 kv (((q.outs.take k).flatMap (rgaps pods q.space)) ++ ((dfars pods q.space r).take j).flatMap (fgaps r)).length ((((q.outs.take k).flatMap (rgaps pods q.space)) ++ ((dfars pods q.space r).take j).flatMap (fgaps r)).flatMap encGap) ∧ Inv w2 kv0 wq kv) (fun _ i _ => (dfars pods q.space r).length - (intOf i).toNat)
      case atStart => exact ⟨0, Nat.zero_le _, rfl, by simpa using HK.out, Inv.refl _ _⟩
      case round =>
        obtain ⟨j, hj, rfl, hown2, hinv⟩ := hrel
        obtain ⟨kvb, hkv⟩ : ∃ v, v = u8 := ⟨_, rfl⟩
        obtain ⟨wb, hwb⟩ : ∃ wb, wb = wr := ⟨_, rfl⟩
        subst hkv hwb
        have HO4 := hid hown2
        have HI := hid hinv
        have hlow := hinv.low HO2.out (show w1.heap.size ≤ w2.heap.size by omega)
        have HBb := hid (show Below w.heap.size w wb from HB3.out.trans (hlow.mono hWs))
        have HBL := hid hlow
        have hwbs := hinv.gr.size
        have g0 := hinv.cell (own_ne HO2.out (.inr (Nat.le_refl _))) b0
        have g1 := hinv.cell (own_ne HO2.out (.inr (Nat.le_refl _))) b1
        have hjl := flatMap_le (f := fgaps r) (m := 2) ((dfars pods q.space r).take j) (fun f _ => fgaps_le HRO.out f)
        rw [List.length_take] at hjl
        clear hown2 hlow
        by_cases hlt2 : j < (dfars pods q.space r).length
        · obtain ⟨f, hfj⟩ : ∃ f, (dfars pods q.space r)[j]? = some f := ⟨(dfars pods q.space r)[j], by simp [hlt2]⟩
          have HFJ := hid hfj
          have HTF := hid (take_flat (f := fgaps r) hfj)
          obtain ⟨gf, fo, rfl, hgf, hgf2, hfc⟩ := own_at (k := 2) (fun _ => rfl) (by decide) HO3.out j f hfj
          have f0 : wb.cell? ⟨gf, fo + j * 2, none⟩ = some (.int .i64 f.base) := hinv.cell (own_ne HO2.out (.inr (show wa.heap.size ≤ gf by omega))) (hfc 0 _ rfl)
          have f1 : wb.cell? ⟨gf, fo + j * 2 + 1, none⟩ = some (.int .i64 f.bits) := hinv.cell (own_ne HO2.out (.inr (show wa.heap.size ≤ gf by omega))) (hfc 1 _ rfl)
          clear hfj hfc hinv
          go_wp2_with (go_at_call 162; refine (ports_any r _ _ _ _ w.heap.size _ (rdPorts.ext (HBb.out.alloc HBb.out.size _) (Nat.le_refl _) HRQ.out) (by have := HBb.out.size; simp; omega)).mono ?_; rintro e w3 ⟨⟨ap, cp, rfl, hps⟩, hb3⟩; have HPS := hid hps; have HK3 := hid (own_to (HO4.out.alloc (.cells #[.int .i64 f.base, .int .i64 f.bits] 47)) hb3); have e0 : w3.cell? ⟨wb.heap.size, 0, none⟩ = some (.int .i64 f.base) := cell_to (by simp [go_sem]) hb3; have e1 : w3.cell? ⟨wb.heap.size, 1, none⟩ = some (.int .i64 f.bits) := cell_to (by simp [go_sem]) hb3; have hs3 := hb3.size; have HI3 := hid ((HI.out.ext ((Below.refl _ wb).alloc (Nat.le_refl _) (.cells #[.int .i64 f.base, .int .i64 f.bits] 47))).ext hb3); clear hps hb3)
          simp only [World.size_alloc] at hs3
          have hpl2 := HPS.out.1
          clear g0 g1 f0 f1
          -- the ports
          go_loopw [8, 38] (fun kv i wc => ∃ t : Nat, t ≤ (dports r).length ∧ i = .int .i64 t ∧ wc.ownsRow w1.heap.size 187 5 kv (((q.outs.take k).flatMap (rgaps pods q.space) ++ ((dfars pods q.space r).take j).flatMap (fgaps r)) ++ ((dports r).take t).map fun p => (⟨f, p⟩ : DGap)).length ((((q.outs.take k).flatMap (rgaps pods q.space) ++ ((dfars pods q.space r).take j).flatMap (fgaps r)) ++ ((dports r).take t).map fun p => (⟨f, p⟩ : DGap)).flatMap encGap) ∧ Inv w3 kvb wc kv) (fun _ i _ => (dports r).length - (intOf i).toNat)
          case atStart => exact ⟨0, Nat.zero_le _, rfl, by simpa using HK3.out, Inv.refl _ _⟩
          case round =>
            obtain ⟨t, ht, rfl, hown5, hinv5⟩ := hrel
            have HO5 := hid hown5
            have HI5 := hid hinv5
            have hwr5 := hinv5.gr.size
            have i0' := hinv5.cell (own_ne HO4.out (.inr (Nat.le_refl _))) e0
            have i1' := hinv5.cell (own_ne HO4.out (.inr (Nat.le_refl _))) e1
            have hbase5 : w1.heap.size ≤ wr.heap.size := by omega
            clear hown5
            by_cases hlt3 : t < (dports r).length
            · obtain ⟨y, hyt⟩ : ∃ y, (dports r)[t]? = some y := ⟨(dports r)[t], by simp [hlt3]⟩
              have HY := hid hyt
              obtain ⟨bp, op, rfl, hbp, _, q0, q1, q2⟩ := HPS.out.2 t y hyt
              have hbp' : bp < w1.heap.size ∨ wb.heap.size ≤ bp := by
                rcases hbp with h | h
                · exact .inl (by omega)
                · simp only [World.size_alloc] at h; exact .inr (by omega)
              have y0 := hinv5.cell (own_ne HO4.out hbp') q0
              have y1 := hinv5.cell (own_ne HO4.out hbp') q1
              have y2 := hinv5.cell (own_ne HO4.out hbp') q2
              clear hyt q0 q1 q2 hinv5
              go_wp2_with (at_builtin; refine wpList_append_own_at _ rfl _ _ 184 rfl w1.heap.size 187 i0 _ 5 40 Tryz.underlying184 hi iz0 iz1 iz2 rfl (by decide) _ _ _ rfl ((HO5.out.alloc _).alloc _) ⟨wr.heap.size + 1, 0, none⟩ 1 1 [.int .i64 f.base, .int .i64 f.bits, .int .i64 y.proto, .int .i64 y.lo, .int .i64 y.hi] rfl rfl (cell_new_list2 _ _ [.int .i64 f.base, .int .i64 f.bits, .int .i64 y.proto, .int .i64 y.lo, .int .i64 y.hi] _) (fun u hu => by simp at hu; rcases hu with rfl | rfl | rfl | rfl | rfl <;> rfl) (by have := gap_sum hlt hrl hP hjl hfl (S := ((dports r).take t).map fun p => (⟨f, p⟩ : DGap)) (t := t) (by rw [List.length_map, List.length_take]) hpo; unfold maxLen; omega) (by have := gap_sum hlt hrl hP hjl hfl (S := ((dports r).take t).map fun p => (⟨f, p⟩ : DGap)) (t := t) (by rw [List.length_map, List.length_take]) hpo; omega) (by simp; omega) ?_; intro v' w4 hown' hg4 _ hat4)
              refine ⟨⟨t + 1, by omega, by go_num, ?_, ?_⟩, by simp [intOf]; omega⟩
              · rw [List.take_add_one, HY.out, Option.toList_some, List.map_append, ← List.append_assoc]; exact own_snoc (enc := encGap) (x := ⟨f, y⟩) hown'
              · exact (HI5.out.ext (((Below.refl _ wr).alloc (Nat.le_refl _) _).alloc (by simp) _)).trans (Inv.app hg4 hat4)
            · go_wp2
              have he : (dports r).take t = dports r := List.take_of_length_le (by omega)
              have ho5 := HO5.out
              rw [he] at ho5
              refine ⟨⟨j + 1, by omega, by go_num, ?_, HI3.out.trans HI5.out⟩, by simp [intOf]; omega⟩
              rw [HTF.out, ← List.append_assoc]; exact ho5
        · go_wp2
          have he : (dfars pods q.space r).take j = dfars pods q.space r := List.take_of_length_le (by omega)
          have ho4 := HO4.out
          rw [he] at ho4
          refine ⟨⟨k + 1, by omega, by go_num, ?_, ?_⟩, by simp [intOf]; omega⟩
          · rw [HT.out]; exact ho4
          · exact HBW.out.trans ((HB2.out.mono hwa).trans HBL.out)
    · go_wp2
      have he : q.outs.take k = q.outs := List.take_of_length_le (by omega)
      have ho := HO2.out
      rw [he] at ho
      go_ret
      exact ⟨⟨_, rfl, own_le ho hWs⟩, HB.out⟩
theorem eqg_row : Tryz.prog.eqGuardType Tryz.prog.depth 49 = false := by kernel_rfl
theorem std_row : Tryz.prog.stoodInHeld 49 = false := by kernel_rfl
attribute [local go_sem] eqg_row std_row
def rowNe (x y : DRow) : Bool := !(decide (x.sb = y.sb) && (decide (x.sn = y.sn) && (decide (x.db = y.db) && (decide (x.dn = y.dn) && (decide (x.proto = y.proto) && (decide (x.lo = y.lo) && (decide (x.hi = y.hi) && decide (x.allow = y.allow))))))))
theorem rowNe_false {x y : DRow} (h : rowNe x y = false) : x = y := by
  simp only [rowNe, Bool.not_eq_false', Bool.and_eq_true, decide_eq_true_eq] at h
  obtain ⟨h1, h2, h3, h4, h5, h6, h7, h8⟩ := h
  cases x; cases y; simp_all
set_option maxHeartbeats 4000000 in
theorem neq_row (x y : DRow) (w : World) : (binOp .neq 49 (.agg #[.int .i64 x.sb, .int .i64 x.sn, .int .i64 x.db, .int .i64 x.dn, .int .i64 x.proto, .int .i64 x.lo, .int .i64 x.hi, .bool x.allow]) (.agg #[.int .i64 y.sb, .int .i64 y.sn, .int .i64 y.db, .int .i64 y.dn, .int .i64 y.proto, .int .i64 y.lo, .int .i64 y.hi, .bool y.allow])).run Tryz.prog w = .ok (.bool (rowNe x y)) w := by
  unfold rowNe
  by_cases h1 : x.sb = y.sb
  · by_cases h2 : x.sn = y.sn
    · by_cases h3 : x.db = y.db
      · by_cases h4 : x.dn = y.dn
        · by_cases h5 : x.proto = y.proto
          · by_cases h6 : x.lo = y.lo
            · by_cases h7 : x.hi = y.hi
              · by_cases h8 : x.allow = y.allow <;> simp [go_sem, h1, h2, h3, h4, h5, h6, h7, h8]
              · simp [go_sem, h1, h2, h3, h4, h5, h6, h7]
            · simp [go_sem, h1, h2, h3, h4, h5, h6]
          · simp [go_sem, h1, h2, h3, h4, h5]
        · simp [go_sem, h1, h2, h3, h4]
      · simp [go_sem, h1, h2, h3]
    · simp [go_sem, h1, h2]
  · simp [go_sem, h1]
end Go.Proofs.YtmkjlhplgcifiaaGreat
