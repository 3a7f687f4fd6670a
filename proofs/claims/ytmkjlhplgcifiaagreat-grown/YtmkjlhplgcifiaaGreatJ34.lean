/-
  The library's sort, at rows, lies in this program as the shelf knows it.
  slices.SortFunc and slices.SortedFunc at rows: the same rows in some order.
  slices.SortedFunc at rows: a list of its own, the same rows in some order.
  row.Once: each row but once.
-/
import Derived.Test.YtmkjlhplgcifiaaGreatJ21
import Derived.Test.YtmkjlhplgcifiaaGreatJ02
import Derived.Test.YtmkjlhplgcifiaaGreatJ15
import Derived.Test.YtmkjlhplgcifiaaGreatJ26
import Derived.Test.YtmkjlhplgcifiaaGreatRows
import Derived.Shelf.SlSortCmp.WholeK
import Derived.Shelf.SlSortCmp.NoneTotal
import Derived.Laws.StructEq
namespace Go.Proofs.YtmkjlhplgcifiaaGreat
open Go.Shelf
def sortRow_ren : Go.Shelf.Ren := ⟨fun | 6 => 178 | 15 => 185 | 14 => 184 | 28 => 195 | 29 => 196 | 20 => 187 | 21 => 188 | 22 => 189 | 23 => 190 | 24 => 191 | 25 => 192 | 26 => 193 | 27 => 194 | 46 => 197 | 47 => 198 | 48 => 199 | 49 => 200 | 50 => 201 | 57 => 202 | n => n, fun | 22 => 40 | 24 => 49 | 25 => 211 | 3 => 3 | 39 => 233 | 0 => 0 | 53 => 243 | 55 => 245 | 4 => 4 | 46 => 236 | 45 => 235 | 50 => 240 | 5 => 5 | 9 => 9 | 66 => 246 | 70 => 250 | 76 => 252 | 77 => 139 | n => n, fun | n => n⟩
theorem sortRow : Go.Proofs.SlLaysF0.n6 Tryz.prog sortRow_ren :=
  { mixed := by kernel_rfl,
    f6 := ⟨Tryz.f178.name, by decide, Tryz.func178.trans (congrArg some (by kernel_rfl))⟩,
    f14 := ⟨Tryz.f184.name, by decide, Tryz.func184.trans (congrArg some (by kernel_rfl))⟩,
    f15 := Tryz.func185.trans (congrArg some (by kernel_rfl)),
    f20 := ⟨Tryz.f187.name, by decide, Tryz.func187.trans (congrArg some (by kernel_rfl))⟩,
    f21 := ⟨Tryz.f188.name, by decide, Tryz.func188.trans (congrArg some (by kernel_rfl))⟩,
    f22 := ⟨Tryz.f189.name, by decide, Tryz.func189.trans (congrArg some (by kernel_rfl))⟩,
    f23 := ⟨Tryz.f190.name, by decide, Tryz.func190.trans (congrArg some (by kernel_rfl))⟩,
    f24 := ⟨Tryz.f191.name, by decide, Tryz.func191.trans (congrArg some (by kernel_rfl))⟩,
    f25 := ⟨Tryz.f192.name, by decide, Tryz.func192.trans (congrArg some (by kernel_rfl))⟩,
    f26 := ⟨Tryz.f193.name, by decide, Tryz.func193.trans (congrArg some (by kernel_rfl))⟩,
    f27 := ⟨Tryz.f194.name, by decide, Tryz.func194.trans (congrArg some (by kernel_rfl))⟩,
    f28 := Tryz.func195.trans (congrArg some (by kernel_rfl)),
    f29 := Tryz.func196.trans (congrArg some (by kernel_rfl)),
    f46 := ⟨Tryz.f197.name, by decide, Tryz.func197.trans (congrArg some (by kernel_rfl))⟩,
    f47 := Tryz.func198.trans (congrArg some (by kernel_rfl)),
    f48 := Tryz.func199.trans (congrArg some (by kernel_rfl)),
    f49 := ⟨Tryz.f200.name, by decide, Tryz.func200.trans (congrArg some (by kernel_rfl))⟩,
    f50 := ⟨Tryz.f201.name, by decide, Tryz.func201.trans (congrArg some (by kernel_rfl))⟩,
    f57 := ⟨Tryz.f202.name, by decide, Tryz.func202.trans (congrArg some (by kernel_rfl))⟩,
    t0 := Tryz.underlying0,
    a0 := Tryz.isAgg0,
    z0 := Tryz.sizeOf0,
    v0 := Tryz.zeroValue0,
    t3 := Tryz.underlying3,
    a3 := Tryz.isAgg3,
    z3 := Tryz.sizeOf3,
    v3 := Tryz.zeroValue3,
    t4 := Tryz.underlying4,
    a4 := Tryz.isAgg4,
    z4 := Tryz.sizeOf4,
    v4 := Tryz.zeroValue4,
    t5 := Tryz.underlying5,
    a5 := Tryz.isAgg5,
    z5 := Tryz.sizeOf5,
    v5 := Tryz.zeroValue5,
    t9 := Tryz.underlying9,
    a9 := Tryz.isAgg9,
    z9 := Tryz.sizeOf9,
    v9 := Tryz.zeroValue9,
    t22 := Tryz.underlying40,
    a22 := Tryz.isAgg40,
    z22 := Tryz.sizeOf40,
    v22 := Tryz.zeroValue40,
    t25 := Tryz.underlying211,
    a25 := Tryz.isAgg211,
    z25 := Tryz.sizeOf211,
    v25 := Tryz.zeroValue211,
    t39 := Tryz.underlying233,
    a39 := Tryz.isAgg233,
    z39 := Tryz.sizeOf233,
    v39 := Tryz.zeroValue233,
    t45 := Tryz.underlying235,
    a45 := Tryz.isAgg235,
    z45 := Tryz.sizeOf235,
    v45 := Tryz.zeroValue235,
    t46 := Tryz.underlying236,
    a46 := Tryz.isAgg236,
    z46 := Tryz.sizeOf236,
    v46 := Tryz.zeroValue236,
    t50 := Tryz.underlying240,
    a50 := Tryz.isAgg240,
    z50 := Tryz.sizeOf240,
    v50 := Tryz.zeroValue240,
    t53 := Tryz.underlying243,
    a53 := Tryz.isAgg243,
    z53 := Tryz.sizeOf243,
    v53 := Tryz.zeroValue243,
    t55 := Tryz.underlying245,
    a55 := Tryz.isAgg245,
    z55 := Tryz.sizeOf245,
    v55 := Tryz.zeroValue245,
    t66 := Tryz.underlying246,
    a66 := Tryz.isAgg246,
    z66 := Tryz.sizeOf246,
    v66 := Tryz.zeroValue246,
    t70 := Tryz.underlying250,
    a70 := Tryz.isAgg250,
    z70 := Tryz.sizeOf250,
    v70 := Tryz.zeroValue250,
    t76 := Tryz.underlying252,
    a76 := Tryz.isAgg252,
    z76 := Tryz.sizeOf252,
    v76 := Tryz.zeroValue252,
    t77 := Tryz.underlying139,
    a77 := Tryz.isAgg139,
    z77 := Tryz.sizeOf139,
    v77 := Tryz.zeroValue139 }
end Go.Proofs.YtmkjlhplgcifiaaGreat
namespace Go.Proofs.YtmkjlhplgcifiaaGreat
open Go.ChangeShapes Go.WideShapes Go.ChangeAt Go.RowKit
set_option linter.unusedVariables false
set_option linter.unusedSimpArgs false
abbrev rowInh : Inhabited DRow := ⟨⟨0, 0, 0, 0, 0, 0, 0, false⟩⟩
theorem encRow_len (x : DRow) : (encRow x).length = 8 := rfl
theorem encRow_one (x : DRow) : ∀ v ∈ encRow x, v.oneCell' = true := by
  intro v hv
  simp [encRow] at hv
  rcases hv with rfl | rfl | rfl | rfl | rfl | rfl | rfl | rfl <;> rfl
theorem cmpLays_row (blk off size : Nat) (w : World) : letI := rowInh; Go.Proofs.CmpLays Tryz.prog 165 #[] encRow 8 cmpRow blk off size w := by
  letI := rowInh
  intro m os dk _ x y
  exact cmpRow_any x y _
theorem holds_own {w : World} {base g cap : Nat} {e : TypeId} {l : List DRow} (ho : w.ownsRow base e 8 (.slice (some ⟨g, 0, none⟩) l.length cap) l.length (l.flatMap encRow)) : letI := rowInh; Go.Sort.HoldsK encRow 8 w g 0 l.toArray := by
  letI := rowInh
  intro j hj
  have hj' : j < l.length * 8 := by simpa using hj
  have hi : j / 8 < l.length := by omega
  have hx : l[j / 8]? = some l[j / 8] := List.getElem?_eq_getElem hi
  have hm : j % 8 < 8 := Nat.mod_lt _ (by omega)
  have h1 := oflat_get (k := 8) encRow_len l (j / 8) l[j / 8] (j % 8) hx hm
  have h2 : j / 8 * 8 + j % 8 = j := Nat.div_add_mod' j 8
  rw [h2] at h1
  obtain ⟨u, hu⟩ : ∃ u, (encRow l[j / 8])[j % 8]? = some u := ⟨(encRow l[j / 8])[j % 8]'(by rw [encRow_len]; exact hm), List.getElem?_eq_getElem (by rw [encRow_len]; exact hm)⟩
  have hfl : id (Go.Sort.flatK encRow 8 l.toArray)[j]! = u := by
    rw [id, Go.Sort.get_flatK _ _ _ _ hj']
    rw [getElem!_pos l.toArray (j / 8) (by simpa using hi)]
    rw [List.getElem!_eq_getElem?_getD]
    simp only [List.getElem_toArray]
    rw [hu]; rfl
  have hcell := ho.cells (g := g) rfl j u (h1.trans hu)
  rw [show ((⟨g, 0, none⟩ : Addr).add j) = ⟨g, j, none⟩ by unfold Addr.add; split <;> simp_all] at hcell
  rw [hfl, Nat.zero_add]
  refine ⟨hcell, ?_⟩
  rcases ho.2 with ⟨h, _⟩ | ⟨g', cap', cur, h, _, hb, _⟩
  · cases h
  · cases h
    simp [World.frozen?, hb]
theorem perm_of_in {d d' : Array DRow} (h : letI := rowInh; Go.Sort.PermIn 0 d.size d d') : d'.toList.Perm d.toList := by
  obtain ⟨hs, _, hp⟩ := h
  have e1 : d'.extract 0 d.size = d' := by rw [← hs]; exact Array.extract_size
  have e2 : d.extract 0 d.size = d := Array.extract_size
  rwa [e1, e2] at hp
theorem sorted_grown {w : World} {g n : Nat} {os : Array Obj} (d : Array DRow) : letI := rowInh; w.grownBy (sortWorldK encRow 8 w g 0 n d os) (some g) := by
  letI := rowInh
  refine ⟨rfl, rfl, rfl, by simp [sortWorldK, Go.Sort.putRowK, Go.Sort.putRow, Go.Sort.mapBlock, Go.Sort.ahead, Go.Sort.grow], fun k hk hne => ?_⟩
  have hgk : g ≠ k := fun e => hne (by rw [e])
  unfold sortWorldK
  rw [Go.Sort.heap_grow_old _ _ (by simpa [Go.Sort.putRowK, Go.Sort.putRow, Go.Sort.mapBlock, Go.Sort.ahead] using hk)]
  simp [Go.Sort.putRowK, Go.Sort.putRow, Go.Sort.mapBlock, Go.Sort.ahead, Array.getElem?_modify, hgk]
theorem sortRows_any (l : List DRow) (base g cap : Nat) (w : World) (ho : w.ownsRow base 49 8 (.slice (some ⟨g, 0, none⟩) l.length cap) l.length (l.flatMap encRow)) (hB : base ≤ w.heap.size) (hl : l.length * 64 ≤ 140737488351232) :
    Calls Tryz.prog 178 #[.slice (some ⟨g, 0, none⟩) l.length cap, .func (.func 165) #[] #[]] w fun e w' => e = .returned (.tuple #[]) ∧ ∃ l', l'.Perm l ∧ rdRows w'.heap.size w' (some ⟨g, 0, none⟩) l' ∧ Below base w w' := by
  letI := rowInh
  have hg := ho.lt g rfl
  have eg : ∀ args w, (callFunc 165 args).run Tryz.prog w = .ok (.enter 165 args) w := enters_of Tryz.func165 (by kernel_rfl) rfl
  have hH := holds_own ho
  have hcon := AnyQ.slices_SortFunc sortRow 8 Tryz.isAgg49 Tryz.sizeOf49 encRow encRow_len encRow_one cmpRow swoRow 165 #[] g 0 cap l.toArray w eg (cmpLays_row g 0 _ w) hH hg.2 (by simp; omega)
  have hcon' : Calls Tryz.prog 178 #[.slice (some ⟨g, 0, none⟩) l.length cap, .func (.func 165) #[] #[]] w _ := hcon
  refine hcon'.mono ?_
  rintro e w' ⟨rfl, d', n, os, hp, _, hw⟩
  have hsz : d'.size = l.toArray.size := hp.1
  have hgr : w.grownBy w' (some g) := by rw [hw]; exact sorted_grown d'
  have hH' : Go.Sort.HoldsK encRow 8 w' g 0 d' := Go.Proofs.SWK.holds ⟨n, os, hw⟩ hg.2 hH hsz
  have hpl : d'.toList.Perm l := perm_of_in hp
  refine ⟨rfl, d'.toList, hpl, ⟨by rw [hpl.length_eq]; exact hl, fun i x hx => ⟨g, 0, rfl, Nat.lt_of_lt_of_le hg.2 hgr.size, ?_⟩⟩, (Below.refl base w).grown hgr hB (fun k hk => by cases hk; exact hg.1)⟩
  obtain ⟨hi, hxi⟩ := List.getElem?_eq_some_iff.1 hx
  have hi' : i < d'.size := by simpa using hi
  have hc := fun c v (hv : (encRow x)[c]? = some v) => Go.Proofs.HoldsK.cells hH' encRow_len hi' c v (by rw [getElem!_pos d' i hi']; simpa [← hxi] using hv)
  have hc' : ∀ c v, (encRow x)[c]? = some v → w'.cell? ⟨g, 0 + i * 8 + c, none⟩ = some v := fun c v hv => by
    have := hc c v hv
    rwa [show ((⟨g, 0 + i * 8, none⟩ : Addr).add c) = ⟨g, 0 + i * 8 + c, none⟩ by unfold Addr.add; split <;> simp_all] at this
  exact ⟨hc' 0 _ rfl, hc' 1 _ rfl, hc' 2 _ rfl, hc' 3 _ rfl, hc' 4 _ rfl, hc' 5 _ rfl, hc' 6 _ rfl, hc' 7 _ rfl⟩
end Go.Proofs.YtmkjlhplgcifiaaGreat
namespace Go.Proofs.YtmkjlhplgcifiaaGreat
open Go.ChangeShapes Go.WideShapes Go.ChangeAt Go.RowKit
set_option linter.unusedVariables false
set_option linter.unusedSimpArgs false
theorem sortNone_any (p : Option Addr) (cap : Nat) (fv : Value) (w : World) : Calls Tryz.prog 178 #[.slice p 0 cap, fv] w fun e w' => e = .returned (.tuple #[]) ∧ w' = w := AnyF.slices_SortFunc_none sortRow p cap fv w
theorem sortedFunc_any (a : Option Addr) (cap Bs : Nat) (zs : List DRow) (w : World) (hBs : w.cell? ⟨Bs, 0, none⟩ = some (.slice a zs.length cap)) (hc : rdRows w.heap.size w a zs) :
    Calls Tryz.prog 163 #[.func (.func 179) #[] #[.pointer (some ⟨Bs, 0, none⟩)], .func (.func 165) #[] #[]] w fun e w' => (∃ a' c' l', e = .returned (.slice a' l'.length c') ∧ l'.Perm zs ∧ rdRows w'.heap.size w' a' l') ∧ Below w.heap.size w w' := by
  have HC := hid hc
  have hlen := hc.1
  clear hc
  cases zs with
  | nil =>
    go_enter Tryz.func163, Tryz.ntmps163
    go_wp2_with (first
      | (go_at_call 177; refine (collect_any a cap Bs [] _ hBs HC.out).mono ?_; rintro e w1 ⟨v, rfl, ho, hb1⟩; obtain ⟨a1, c1, rfl, _, _⟩ := own_slice ho; clear ho)
      | (go_at_call 178; refine (sortNone_any _ _ _ _).mono ?_; rintro e w2 ⟨rfl, rfl⟩))
    go_ret
    exact ⟨⟨a1, c1, [], rfl, List.Perm.refl _, by simp, fun i x hx => by simp at hx⟩, hb1⟩
  | cons z t =>
    have hne : (z :: t).length = t.length + 1 := rfl
    go_enter Tryz.func163, Tryz.ntmps163
    go_wp2_with (first
      | (go_at_call 177; refine (collect_any a cap Bs (z :: t) _ hBs HC.out).mono ?_; rintro e w1 ⟨v, rfl, ho, hb1⟩; obtain ⟨g1, c1, rfl⟩ := ownsRow_succ (k := t.length) ho; have HO := hid ho; clear ho)
      | (go_at_call 178; refine (sortRows_any (z :: t) w.heap.size g1 c1 _ HO.out hb1.size hlen).mono ?_; rintro e w2 ⟨rfl, l', hp, hr, hb2⟩; have HP := hid hp; have HR := hid hr; clear hp hr))
    go_ret
    exact ⟨⟨_, c1, l', by rw [HP.out.length_eq]; rfl, HP.out, HR.out⟩, hb1.trans hb2⟩
end Go.Proofs.YtmkjlhplgcifiaaGreat
namespace Go.Proofs.YtmkjlhplgcifiaaGreat
open Go.ChangeShapes Go.WideShapes Go.ChangeAt Go.RowKit
attribute [local simp] World.cell?_grow
attribute [local go_sem] World.cell?_grow
attribute [local simp] World.cell?_alloc_there
attribute [local go_sem] World.cell?_alloc_there
attribute [local go_sem] eqg_blk std_blk eqg_pod std_pod eqg_sel std_sel eqg_prt std_prt
attribute [local go_sem ↓] eql_blk eql_sel neq_sel eql_prt eql_pod
attribute [local go_sem ↓] met_in1 met_in2 met_re1 met_re2
attribute [local go_sem ↓] met_has1 met_has2
attribute [local go_sem ↓] met_bl1 met_bl2
set_option linter.unusedVariables false
set_option linter.unusedSimpArgs false
theorem eqg_row : Tryz.prog.eqGuardType Tryz.prog.depth 49 = false := by kernel_rfl
theorem std_row : Tryz.prog.stoodInHeld 49 = false := by kernel_rfl
attribute [local go_sem] eqg_row std_row
def rowNe (x y : DRow) : Bool := !(decide (x.sb = y.sb) && (decide (x.sn = y.sn) && (decide (x.db = y.db) && (decide (x.dn = y.dn) && (decide (x.proto = y.proto) && (decide (x.lo = y.lo) && (decide (x.hi = y.hi) && decide (x.allow = y.allow))))))))
theorem rowNe_false {x y : DRow} (h : rowNe x y = false) : x = y := by
  simp only [rowNe, Bool.not_eq_false', Bool.and_eq_true, decide_eq_true_eq] at h
  obtain ⟨h1, h2, h3, h4, h5, h6, h7, h8⟩ := h
  cases x; cases y; simp_all
set_option maxHeartbeats 4000000 in
theorem neq_row (x y : DRow) (w : World) : (binOp .neq 49 (.agg #[.int .i64 x.sb, .int .i64 x.sn, .int .i64 x.db, .int .i64 x.dn, .int .i64 x.proto, .int .i64 x.lo, .int .i64 x.hi, .bool x.allow]) (.agg #[.int .i64 y.sb, .int .i64 y.sn, .int .i64 y.db, .int .i64 y.dn, .int .i64 y.proto, .int .i64 y.lo, .int .i64 y.hi, .bool y.allow])).run Tryz.prog w = .ok (.bool (rowNe x y)) w := by
  unfold rowNe
  by_cases h1 : x.sb = y.sb
  · by_cases h2 : x.sn = y.sn
    · by_cases h3 : x.db = y.db
      · by_cases h4 : x.dn = y.dn
        · by_cases h5 : x.proto = y.proto
          · by_cases h6 : x.lo = y.lo
            · by_cases h7 : x.hi = y.hi
              · by_cases h8 : x.allow = y.allow <;> simp [go_sem, h1, h2, h3, h4, h5, h6, h7, h8]
              · simp [go_sem, h1, h2, h3, h4, h5, h6, h7]
            · simp [go_sem, h1, h2, h3, h4, h5, h6]
          · simp [go_sem, h1, h2, h3, h4, h5]
        · simp [go_sem, h1, h2, h3, h4]
      · simp [go_sem, h1, h2, h3]
    · simp [go_sem, h1, h2]
  · simp [go_sem, h1]
end Go.Proofs.YtmkjlhplgcifiaaGreat
