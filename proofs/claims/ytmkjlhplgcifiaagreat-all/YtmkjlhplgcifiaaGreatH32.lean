/-
  palisadelaw: drawer.looks, walked: every list of the drawer is a list of its mark: it answers true.
-/
import Derived.Test.YtmkjlhplgcifiaaGreatH31
import Derived.Test.YtmkjlhplgcifiaaGreatH27
import Derived.Test.YtmkjlhplgcifiaaGreatH21
import Derived.Test.YtmkjlhplgcifiaaGreatH22
import Derived.Test.YtmkjlhplgcifiaaGreatH14
namespace Go.Proofs.YtmkjlhplgcifiaaGreat
open Go.ChangeShapes Go.WideShapes Go.ChangeAt Go.RowKit
set_option linter.unusedVariables false
set_option linter.unusedSimpArgs false
attribute [local simp] World.cell?_grow World.cell?_alloc_there
attribute [local go_sem] World.cell?_grow World.cell?_alloc_there eqg_blk std_blk eqg_pod std_pod eqg_sel std_sel eqg_prt std_prt eqg_row std_row
attribute [local go_sem ↓] eql_blk eql_sel neq_sel eql_prt eql_pod met_in1 met_in2 met_re1 met_re2 met_has1 met_has2 met_bl1 met_bl2 neq_row
def eSl (_B : Nat) (w : World) (b o : Nat) (d : DSl) : Prop := w.cell? ⟨b, o, none⟩ = some (.slice d.a d.n d.c)
abbrev rdSls (B : Nat) (w : World) (a : Option Addr) (l : List DSl) : Prop := RdSl B w 1 24 eSl a l
theorem own_sls {w : World} {base : Nat} {e : TypeId} {v : Value} {l : List DSl} (h : w.ownsRow base e 1 v l.length (l.flatMap encSl)) (hy : l.length * 24 ≤ 140737488351232) : ∃ a c, v = .slice a l.length c ∧ l.length ≤ c ∧ rdSls w.heap.size w a l :=
  own_rd (fun _ => rfl) h (by decide) hy fun b o x _ _ hc => hc 0 _ rfl
set_option maxRecDepth 100000 in
set_option maxHeartbeats 2000000 in
theorem looks_any (wb : Nat) (da : Option Addr) (dc : Nat) (Ds : List DSl) (w : World) (h0 : w.cell? ⟨wb, 1, none⟩ = some (.slice da Ds.length dc)) (hrd : rdSls w.heap.size w da Ds) (hD : ∀ k d, Ds[k]? = some d → rdRows w.heap.size w d.a (List.replicate d.n (markRow k))) :
    Calls Tryz.prog 31 #[.pointer (some ⟨wb, 1, none⟩)] w fun e w' => e = .returned (.bool true) ∧ Below w.heap.size w w' := by
  obtain ⟨hlen, hrd⟩ := hrd
  have HR := hid hrd
  have HD := hid hD
  clear hrd hD
  go_enter Tryz.func31, Tryz.ntmps31
  go_wp2_with fail
  go_loopw [3] (fun i wr => ∃ k : Nat, k ≤ Ds.length ∧ i = .int .i64 k ∧ Below w.heap.size w wr) (fun i _ => Ds.length - (intOf i).toNat)
  case atStart => exact ⟨0, Nat.zero_le _, rfl, Below.refl _ _⟩
  case round =>
    obtain ⟨k, hk, rfl, hbw⟩ := hrel
    obtain ⟨wk, hwk⟩ : ∃ wk, wk = wr := ⟨_, rfl⟩
    subst hwk
    have z0 := cell_to h0 hbw
    have HBW := hid hbw
    by_cases hlt : k < Ds.length
    · obtain ⟨b, off, rfl, hb, c0⟩ := HR.out k Ds[k] (by simp)
      have hdk := HD.out k Ds[k] (by simp)
      generalize Ds[k] = d at c0 hdk
      obtain ⟨a, n, c⟩ := d
      have c0 : w.cell? ⟨b, off + k * 1, none⟩ = some (.slice a n c) := c0
      rw [Nat.mul_one] at c0
      have e0 := cell_to c0 hbw
      obtain ⟨hn, hrow⟩ := hdk
      rw [List.length_replicate] at hn
      have hn : n * 64 ≤ 140737488351232 := hn
      have HROW := hid hrow
      have zk : (k : Int) < (Ds.length : Int) := by omega
      clear hrow c0 hbw
      go_wp2_with fail
      refine (mark_any k wk (by omega)).mono ?_
      rintro e w1 ⟨rfl, hb1⟩
      have z1 := cell_to z0 hb1
      have e1 := cell_to e0 hb1
      have HB1 := hid (Ext.trans HBW.out hb1)
      clear z0 e0 hb1
      go_wp2_with fail
      have x0 : (w1.alloc (.cells #[.int .i64 0, .int .i64 0, .int .i64 0, .int .i64 0, .int .i64 0, .int .i64 (-1000 - (k : Int) / 4), .int .i64 0, .bool false] 49)).cell? ⟨w1.heap.size, 0, none⟩ = some (.int .i64 0) := by simp [go_sem]
      have x1 : (w1.alloc (.cells #[.int .i64 0, .int .i64 0, .int .i64 0, .int .i64 0, .int .i64 0, .int .i64 (-1000 - (k : Int) / 4), .int .i64 0, .bool false] 49)).cell? ⟨w1.heap.size, 1, none⟩ = some (.int .i64 0) := by simp [go_sem]
      have x2 : (w1.alloc (.cells #[.int .i64 0, .int .i64 0, .int .i64 0, .int .i64 0, .int .i64 0, .int .i64 (-1000 - (k : Int) / 4), .int .i64 0, .bool false] 49)).cell? ⟨w1.heap.size, 2, none⟩ = some (.int .i64 0) := by simp [go_sem]
      have x3 : (w1.alloc (.cells #[.int .i64 0, .int .i64 0, .int .i64 0, .int .i64 0, .int .i64 0, .int .i64 (-1000 - (k : Int) / 4), .int .i64 0, .bool false] 49)).cell? ⟨w1.heap.size, 3, none⟩ = some (.int .i64 0) := by simp [go_sem]
      have x4 : (w1.alloc (.cells #[.int .i64 0, .int .i64 0, .int .i64 0, .int .i64 0, .int .i64 0, .int .i64 (-1000 - (k : Int) / 4), .int .i64 0, .bool false] 49)).cell? ⟨w1.heap.size, 4, none⟩ = some (.int .i64 0) := by simp [go_sem]
      have x5 : (w1.alloc (.cells #[.int .i64 0, .int .i64 0, .int .i64 0, .int .i64 0, .int .i64 0, .int .i64 (-1000 - (k : Int) / 4), .int .i64 0, .bool false] 49)).cell? ⟨w1.heap.size, 5, none⟩ = some (.int .i64 (-1000 - (k : Int) / 4)) := by simp [go_sem]
      have x6 : (w1.alloc (.cells #[.int .i64 0, .int .i64 0, .int .i64 0, .int .i64 0, .int .i64 0, .int .i64 (-1000 - (k : Int) / 4), .int .i64 0, .bool false] 49)).cell? ⟨w1.heap.size, 6, none⟩ = some (.int .i64 0) := by simp [go_sem]
      have x7 : (w1.alloc (.cells #[.int .i64 0, .int .i64 0, .int .i64 0, .int .i64 0, .int .i64 0, .int .i64 (-1000 - (k : Int) / 4), .int .i64 0, .bool false] 49)).cell? ⟨w1.heap.size, 7, none⟩ = some (.bool false) := by simp [go_sem]
      have hbX : Below w1.heap.size w1 (w1.alloc (.cells #[.int .i64 0, .int .i64 0, .int .i64 0, .int .i64 0, .int .i64 0, .int .i64 (-1000 - (k : Int) / 4), .int .i64 0, .bool false] 49)) := bel
      have z2 := cell_to z1 hbX
      have e2 := cell_to e1 hbX
      generalize (w1.alloc (.cells #[.int .i64 0, .int .i64 0, .int .i64 0, .int .i64 0, .int .i64 0, .int .i64 (-1000 - (k : Int) / 4), .int .i64 0, .bool false] 49)) = X at x0 x1 x2 x3 x4 x5 x6 x7 hbX z2 e2 ⊢
      have HBX := hid (Ext.trans HB1.out hbX)
      clear z1 e1 hbX
      go_loopw [5] (fun i wx => ∃ j : Nat, j ≤ n ∧ i = .int .i64 j ∧ Below X.heap.size X wx) (fun i _ => n - (intOf i).toNat)
      case atStart => exact ⟨0, Nat.zero_le _, rfl, Below.refl _ _⟩
      case round =>
        obtain ⟨j, hj, rfl, hbj⟩ := hrel
        obtain ⟨wj, hwj⟩ : ∃ wj, wj = wr := ⟨_, rfl⟩
        subst hwj
        have z3 := cell_to z2 hbj
        have e3 := cell_to e2 hbj
        have HBJ := hid (Ext.trans HBX.out hbj)
        have HBj := hid hbj
        by_cases hlj : j < n
        · obtain ⟨b2, o2, rfl, hb2, r0, r1, r2, r3, r4, r5, r6, r7⟩ := HROW.out j (markRow k) (by rw [List.getElem?_replicate, if_pos hlj])
          have zj : (j : Int) < (n : Int) := by omega
          have s0 : wj.cell? ⟨b2, o2 + j * 8, none⟩ = some (.int .i64 0) := cell_to r0 HBJ.out
          have y0 := cell_to x0 hbj
          have s1 : wj.cell? ⟨b2, o2 + j * 8 + 1, none⟩ = some (.int .i64 0) := cell_to r1 HBJ.out
          have y1 := cell_to x1 hbj
          have s2 : wj.cell? ⟨b2, o2 + j * 8 + 2, none⟩ = some (.int .i64 0) := cell_to r2 HBJ.out
          have y2 := cell_to x2 hbj
          have s3 : wj.cell? ⟨b2, o2 + j * 8 + 3, none⟩ = some (.int .i64 0) := cell_to r3 HBJ.out
          have y3 := cell_to x3 hbj
          have s4 : wj.cell? ⟨b2, o2 + j * 8 + 4, none⟩ = some (.int .i64 0) := cell_to r4 HBJ.out
          have y4 := cell_to x4 hbj
          have s5 : wj.cell? ⟨b2, o2 + j * 8 + 5, none⟩ = some (.int .i64 (-1000 - (k : Int) / 4)) := cell_to r5 HBJ.out
          have y5 := cell_to x5 hbj
          have s6 : wj.cell? ⟨b2, o2 + j * 8 + 6, none⟩ = some (.int .i64 0) := cell_to r6 HBJ.out
          have y6 := cell_to x6 hbj
          have s7 : wj.cell? ⟨b2, o2 + j * 8 + 7, none⟩ = some (.bool false) := cell_to r7 HBJ.out
          have y7 := cell_to x7 hbj
          clear r0 r1 r2 r3 r4 r5 r6 r7 hbj z2 e2 x0 x1 x2 x3 x4 x5 x6 x7
          go_wp2
          go_region
          go_wp2
          exact ⟨⟨j + 1, by omega, by go_num, HBj.out.drew⟩, by simp [intOf]; omega⟩
        · have hje : j = n := by omega
          subst hje
          clear hbj z2 e2 x0 x1 x2 x3 x4 x5 x6 x7
          go_wp2
          exact ⟨⟨k + 1, by omega, by go_num, HBJ.out⟩, by simp [intOf]; omega⟩
    · have hke : k = Ds.length := by omega
      subst hke
      clear hbw
      go_wp2
      go_ret
      exact ⟨rfl, HBW.out⟩
set_option maxHeartbeats 1000000 in
theorem allPl (f : Int × Int → Bool) (k0 k1 : Value) (a : Option Addr) (cap : Nat) (l : List (Int × Int)) (w : World) (hl : rdPls w.heap.size w a l)
    (hK : ∀ (x : Int × Int) (w1 : World), x ∈ l → Below w.heap.size w w1 → Calls Tryz.prog 40 #[.agg #[.int .i64 x.1, .int .i64 x.2], k0, k1] w1 fun e w2 => e = .returned (.bool (f x)) ∧ Below w1.heap.size w1 w2) :
    Calls Tryz.prog 38 #[.slice a l.length cap, .func (.func 40) #[] #[k0, k1]] w fun e w' => e = .returned (.bool (l.all f)) ∧ Below w.heap.size w w' := by
  have HK := hid hK
  obtain ⟨hlen, hl⟩ := hl
  have HL := hid hl
  clear hl hK
  go_enter Tryz.func38, Tryz.ntmps38
  go_wp2
  go_loopw [9] (fun i wr => ∃ k : Nat, k ≤ l.length ∧ i = .int .i64 k ∧ (l.take k).all f = true ∧ Below w.heap.size w wr) (fun i _ => l.length - (intOf i).toNat)
  case atStart => exact ⟨0, Nat.zero_le _, rfl, rfl, Below.refl _ _⟩
  case round =>
    obtain ⟨k, hk, rfl, hall, hbw⟩ := hrel
    have HA := hid hall
    clear hall
    by_cases hlt : k < l.length
    · obtain ⟨hc, hf⟩ := bcell hbw
      obtain ⟨x, hxk⟩ : ∃ x, l[k]? = some x := ⟨l[k], by simp [hlt]⟩
      have HX := hid hxk
      clear hxk
      obtain ⟨b, off, rfl, hb, c0, c1⟩ := HL.out k x HX.out
      cases hx : f x
      · go_wp2_with (go_at_call 40; refine (HK.out x _ (List.mem_of_getElem? HX.out) bel).mono ?_; rw [hx]; rintro e w1 ⟨rfl, hb1⟩)
        go_ret
        exact ⟨ret_bool (by rw [all_false HX.out hx]), bel⟩
      · go_wp2_with (go_at_call 40; refine (HK.out x _ (List.mem_of_getElem? HX.out) bel).mono ?_; rw [hx]; rintro e w1 ⟨rfl, hb1⟩)
        exact ⟨⟨k + 1, by omega, by go_num, take_all HX.out HA.out hx, bel⟩, by simp [intOf]; omega⟩
    · go_wp2
      go_ret
      have := HA.out
      rw [List.take_of_length_le (by omega)] at this
      exact ⟨ret_bool (by rw [this]), hbw⟩
theorem admClo (c : DClu) (T : Int × Int → List DRow) (tb : Nat) (p : Int × Int) (k : DPkt) (tc kb : Nat) (w : World) (h : TabsAs w.heap.size w tb c T) (hm : p ∈ plist) (hk : pktOk k = true) (hc : cluOk c) (t0 : w.cell? ⟨tc, 0, none⟩ = some (.pointer (some ⟨tb, 0, none⟩)))
    (c0 : w.cell? ⟨kb, 0, none⟩ = some (.int .i64 k.src)) (c1 : w.cell? ⟨kb, 1, none⟩ = some (.int .i64 k.dst)) (c2 : w.cell? ⟨kb, 2, none⟩ = some (.int .i64 k.proto)) (c3 : w.cell? ⟨kb, 3, none⟩ = some (.int .i64 k.port)) :
    Calls Tryz.prog 40 #[.agg #[.int .i64 p.1, .int .i64 p.2], .pointer (some ⟨tc, 0, none⟩), .pointer (some ⟨kb, 0, none⟩)] w fun e w' => e = .returned (.bool (decd c p.1 p.2 k)) ∧ Below w.heap.size w w' := by
  obtain ⟨r, vs, a, cc, m0, hM, ⟨n0, hs⟩, hr⟩ := h.look p.1 p.2 hm
  obtain ⟨L, hL, hT⟩ := h.tab p.1 p.2 hm
  obtain ⟨n, rw', h1, h2, h3⟩ := tab_decides hc hT k hk
  have hok := tab_ok hc hT
  rw [← hL] at h1 h2 hok
  have l0 := cell_lt m0
  have l1 := cell_lt t0
  have l2 := cell_lt c0
  have hlk := fun w1 h1 => look_place1 w1 r vs h1 p.1 p.2
  rw [hs] at hlk
  have hM1 : MapAt (w.alloc (.cells #[.int .i64 p.1, .int .i64 p.2] 99)) r vs := by
    have hr : r < w.heap.size := (Array.getElem?_eq_some_iff.1 hM).1
    exact (Below.heap_alloc _ _ _ hr).trans hM
  have hlk := fun u => hlk _ (show MapAt ((w.alloc (.cells #[.int .i64 p.1, .int .i64 p.2] 99)).grow u) r vs from (World.heap_grow _ u r (Array.getElem?_eq_some_iff.1 hM1).1).trans hM1)
  have hC : Below w.heap.size w (w.alloc (.cells #[.int .i64 p.1, .int .i64 p.2] 99)) := (Below.refl _ w).alloc (Nat.le_refl _) _
  have HR := hid hr
  have H1 := hid h1
  have H2 := hid h2
  have H3 := hid h3
  have HOK := hid hok
  have HK := hid hk
  clear h hM hs hm hM1 hr h1 h2 h3 hok hL hT hk
  generalize T (p.1, p.2) = l at *
  have HD := hid (show ∀ (W : World), rdRows W.heap.size W (some a) l → Calls Tryz.prog 37 #[.slice (some a) l.length cc, .agg #[.int .i64 k.src, .int .i64 k.dst, .int .i64 k.proto, .int .i64 k.port]] W fun e w' => e = .returned (.tuple #[.bool (decd c p.1 p.2 k), .int .i64 n]) ∧ Below W.heap.size W w' from fun W hW => by
    have := decides_any l k n rw' (some a) cc W hW HOK.out HK.out H1.out H2.out
    rw [H3.out] at this
    exact this)
  go_enter Tryz.func40, Tryz.ntmps40
  go_wp2
  refine wp_region_grow (by kernel_rfl) (by kernel_rfl) ?_
  repeat (go_big_quiet_step (first
    | (go_at_call 37; exact Calls.grow_of (HD.out _ (rdRows.to (rdRows.to HR.out hC) (World.below_grow _ _))))))
  refine wpQuiet_nil ?_
  intro w1 hb1
  obtain ⟨hc1, hf1⟩ := bcell hb1
  have hz1 := hb_lt hb1
  go_wp2
  go_ret
  exact ⟨rfl, bel⟩
theorem admits_bad (tb : Nat) (k : DPkt) (w : World) (hk : pktOk k = false) :
    Calls Tryz.prog 20 #[.pointer (some ⟨tb, 0, none⟩), .agg #[.int .i64 k.src, .int .i64 k.dst, .int .i64 k.proto, .int .i64 k.port]] w fun e w' => e = .returned (.tuple #[.bool false, .int .i64 4]) ∧ Below w.heap.size w w' := by
  go_enter Tryz.func20, Tryz.ntmps20
  go_wp2_with (go_at_call 36; refine (pktRight_any k _).mono ?_; rw [hk]; rintro e w1 ⟨rfl, hb1⟩; obtain ⟨hc1, hf1⟩ := bcell hb1; have hz1 := hb_lt hb1)
  go_ret2
  exact ⟨rfl, bel⟩
theorem decd_may {c : DClu} (hc : cluOk c) (k : DPkt) : (plist.all fun p => decd c p.1 p.2 k) = (may c 1 k k.src k.dst && may c 2 k k.dst k.src) := by
  have h1 := decd_all hc k 1
  have h2 := decd_all hc k 2
  show _ = (may c 1 k (nearOf 1 k) (farOf 1 k) && may c 2 k (nearOf 2 k) (farOf 2 k))
  rw [← h1, ← h2]
  simp only [plist, List.all_cons, List.all_nil, Bool.and_true]
  cases decd c 0 1 k <;> cases decd c 1 1 k <;> cases decd c 2 1 k <;> cases decd c 3 1 k <;> simp [Bool.and_assoc]
set_option maxHeartbeats 1000000 in
theorem admits_any (c : DClu) (T : Int × Int → List DRow) (tb : Nat) (k : DPkt) (w : World) (h : TabsAs w.heap.size w tb c T) (hk : pktOk k = true) (hc : cluOk c) :
    Calls Tryz.prog 20 #[.pointer (some ⟨tb, 0, none⟩), .agg #[.int .i64 k.src, .int .i64 k.dst, .int .i64 k.proto, .int .i64 k.port]] w fun e w' => e = .returned (.tuple #[.bool (may c 1 k k.src k.dst && may c 2 k k.dst k.src), .int .i64 0]) ∧ Below w.heap.size w w' := by
  have HT := hid h
  have HK := hid hk
  have HC := hid hc
  have HM := hid (decd_may hc k)
  have hmf := mkFunc
  clear h hk hc
  go_enter Tryz.func20, Tryz.ntmps20
  go_wp2_with (first
    | (go_at_call 36; refine (pktRight_any k _).mono ?_; rw [HK.out]; rintro e w1 ⟨rfl, hb1⟩; obtain ⟨hc1, hf1⟩ := bcell hb1; have hz1 := hb_lt hb1)
    | (go_at_call 39; refine (places_any _).mono ?_; rintro e w2 ⟨⟨la, lc, rfl, hl2⟩, hb2⟩; have HL := hid hl2; clear hl2)
    | (go_at_call 38; go_must (refine (allPl (fun p => decd c p.1 p.2 k) _ _ _ _ _ _ HL.out (fun x w3 hx hb3 => admClo c T tb x k _ _ w3 (HT.out.to bel) hx HK.out HC.out (cell_to (cell_to (cell_to (by simp [go_sem]) hb1) hb2) hb3) (cell_to (cell_to (cell_to (by simp [go_sem]) hb1) hb2) hb3) (cell_to (cell_to (cell_to (by simp [go_sem]) hb1) hb2) hb3) (cell_to (cell_to (cell_to (by simp [go_sem]) hb1) hb2) hb3) (cell_to (cell_to (cell_to (by simp [go_sem]) hb1) hb2) hb3))).mono ?_); rw [HM.out]; rintro e w4 ⟨rfl, hb4⟩))
  go_ret2
  exact ⟨rfl, bel⟩
end Go.Proofs.YtmkjlhplgcifiaaGreat
namespace Go.Proofs.YtmkjlhplgcifiaaGreat
open Go.ChangeShapes Go.WideShapes Go.ChangeAt Go.RowKit
set_option linter.unusedVariables false
set_option linter.unusedSimpArgs false
attribute [local simp] World.cell?_grow World.cell?_alloc_there
attribute [local go_sem] World.cell?_grow World.cell?_alloc_there eqg_blk std_blk eqg_pod std_pod eqg_sel std_sel eqg_prt std_prt
attribute [local go_sem ↓] eql_blk eql_sel neq_sel eql_prt eql_pod met_in1 met_in2 met_re1 met_re2 met_has1 met_has2
set_option maxHeartbeats 4000000 in
theorem refAllowed_any (c : DClu) (k : DPkt) (pa qa : Option Addr) (pc qc : Nat) (w : World) (hp : rdPods w.heap.size w pa c.pods) (hq : rdPols w.heap.size w qa c.pols) :
    Calls Tryz.prog 77 #[.agg #[.slice pa c.pods.length pc, .slice qa c.pols.length qc], .agg #[.int .i64 k.src, .int .i64 k.dst, .int .i64 k.proto, .int .i64 k.port]] w
      fun e w' => e = .returned (.tuple #[.bool (allowed c k).1, .int .i64 (allowed c k).2]) ∧ Below w.heap.size w w' := by
  have HP := hid hp
  have HQ := hid hq
  clear hp hq
  by_cases h0 : (right c).1 = 0
  · have HC := hid (right_zero h0)
    have HE := hid h0
    cases hk : pktOk k
    · have HF := hid (show allowed c k = (false, 4) by rw [allowed, if_neg (by simp [h0]), if_pos hk])
      have HK := hid hk
      clear h0
      go_enter Tryz.func77, Tryz.ntmps77
      go_wp2_with (first
        | (go_at_call 75; refine (refRight_any c _ _ _ _ _ (rdPods.to HP.out bel) (rdPols.to HQ.out bel)).mono ?_; rw [HE.out]; rintro e w1 ⟨rfl, hb1⟩; obtain ⟨hc1, hf1⟩ := bcell hb1; have hz1 := hb_lt hb1; have ca0 : w1.cell? ⟨w.heap.size, 0, none⟩ = some (.slice pa c.pods.length pc) := cell_to (by simp [go_sem]) hb1; have ca1 : w1.cell? ⟨w.heap.size, 1, none⟩ = some (.slice qa c.pols.length qc) := cell_to (by simp [go_sem]) hb1; have ca2 : w1.cell? ⟨w.heap.size + 1, 0, none⟩ = some (.int .i64 k.src) := cell_to (by simp [go_sem]) hb1; have ca3 : w1.cell? ⟨w.heap.size + 1, 1, none⟩ = some (.int .i64 k.dst) := cell_to (by simp [go_sem]) hb1; have ca4 : w1.cell? ⟨w.heap.size + 1, 2, none⟩ = some (.int .i64 k.proto) := cell_to (by simp [go_sem]) hb1; have ca5 : w1.cell? ⟨w.heap.size + 1, 3, none⟩ = some (.int .i64 k.port) := cell_to (by simp [go_sem]) hb1)
        | (go_at_call 83; refine (refPkt_any k _).mono ?_; rw [HK.out]; rintro e w2 ⟨rfl, hb2⟩; obtain ⟨hc2, hf2⟩ := bcell hb2; have hz2 := hb_lt hb2; have cb0 := cell_to ca0 hb2; have cb1 := cell_to ca1 hb2; have cb2 := cell_to ca2 hb2; have cb3 := cell_to ca3 hb2; have cb4 := cell_to ca4 hb2; have cb5 := cell_to ca5 hb2))
      go_ret2
      exact ⟨by rw [HF.out]; rfl, bel⟩
    · have HK := hid hk
      have hs := pktOk_src hk
      have hd := pktOk_dst hk
      cases hm : may c 1 k k.src k.dst
      all_goals
        have HF := hid (show allowed c k = (may c 1 k k.src k.dst && may c 2 k k.dst k.src, 0) by rw [allowed, if_neg (by simp [h0]), if_neg (by simp [hk])])
        have HM := hid hm
        clear h0
        go_enter Tryz.func77, Tryz.ntmps77
        go_wp2_with (first
          | (go_at_call 75; refine (refRight_any c _ _ _ _ _ (rdPods.to HP.out bel) (rdPols.to HQ.out bel)).mono ?_; rw [HE.out]; rintro e w1 ⟨rfl, hb1⟩; obtain ⟨hc1, hf1⟩ := bcell hb1; have hz1 := hb_lt hb1; have ca0 : w1.cell? ⟨w.heap.size, 0, none⟩ = some (.slice pa c.pods.length pc) := cell_to (by simp [go_sem]) hb1; have ca1 : w1.cell? ⟨w.heap.size, 1, none⟩ = some (.slice qa c.pols.length qc) := cell_to (by simp [go_sem]) hb1; have ca2 : w1.cell? ⟨w.heap.size + 1, 0, none⟩ = some (.int .i64 k.src) := cell_to (by simp [go_sem]) hb1; have ca3 : w1.cell? ⟨w.heap.size + 1, 1, none⟩ = some (.int .i64 k.dst) := cell_to (by simp [go_sem]) hb1; have ca4 : w1.cell? ⟨w.heap.size + 1, 2, none⟩ = some (.int .i64 k.proto) := cell_to (by simp [go_sem]) hb1; have ca5 : w1.cell? ⟨w.heap.size + 1, 3, none⟩ = some (.int .i64 k.port) := cell_to (by simp [go_sem]) hb1)
          | (go_at_call 83; refine (refPkt_any k _).mono ?_; rw [HK.out]; rintro e w2 ⟨rfl, hb2⟩; obtain ⟨hc2, hf2⟩ := bcell hb2; have hz2 := hb_lt hb2; have cb0 := cell_to ca0 hb2; have cb1 := cell_to ca1 hb2; have cb2 := cell_to ca2 hb2; have cb3 := cell_to ca3 hb2; have cb4 := cell_to ca4 hb2; have cb5 := cell_to ca5 hb2))
        refine (refMay_out c k _ _ _ _ _ _ _ (rdPods.to HP.out bel) (rdPols.to HQ.out bel) HC.out hd.1 hd.2).mono ?_
        rw [HM.out]
        rintro e w3 ⟨rfl, hb3⟩; obtain ⟨hc3, hf3⟩ := bcell hb3; have hz3 := hb_lt hb3
        have cc0 := cell_to cb0 hb3
        have cc1 := cell_to cb1 hb3
        have cc2 := cell_to cb2 hb3
        have cc3 := cell_to cb3 hb3
        have cc4 := cell_to cb4 hb3
        have cc5 := cell_to cb5 hb3
        go_wp2_with fail
        refine (refMay_in c k _ _ _ _ _ _ _ (rdPods.to HP.out bel) (rdPols.to HQ.out bel) HC.out hs.1 hs.2).mono ?_
        rintro e w4 ⟨rfl, hb4⟩; obtain ⟨hc4, hf4⟩ := bcell hb4; have hz4 := hb_lt hb4
        go_wp2
        go_ret2
        exact ⟨by rw [HF.out, HM.out]; rfl, bel⟩
  · have HF := hid (show allowed c k = (false, (right c).1) by rw [allowed, if_pos h0])
    have hn : ((right c).1 == 0) = false := by simp [h0]
    have hn2 := bneT h0
    clear h0
    go_enter Tryz.func77, Tryz.ntmps77
    go_wp2_with (go_at_call 75; refine (refRight_any c _ _ _ _ _ (rdPods.to HP.out bel) (rdPols.to HQ.out bel)).mono ?_; rintro e w1 ⟨rfl, hb1⟩; obtain ⟨hc1, hf1⟩ := bcell hb1; have hz1 := hb_lt hb1; have ca0 : w1.cell? ⟨w.heap.size, 0, none⟩ = some (.slice pa c.pods.length pc) := cell_to (by simp [go_sem]) hb1; have ca1 : w1.cell? ⟨w.heap.size, 1, none⟩ = some (.slice qa c.pols.length qc) := cell_to (by simp [go_sem]) hb1; have ca2 : w1.cell? ⟨w.heap.size + 1, 0, none⟩ = some (.int .i64 k.src) := cell_to (by simp [go_sem]) hb1; have ca3 : w1.cell? ⟨w.heap.size + 1, 1, none⟩ = some (.int .i64 k.dst) := cell_to (by simp [go_sem]) hb1; have ca4 : w1.cell? ⟨w.heap.size + 1, 2, none⟩ = some (.int .i64 k.proto) := cell_to (by simp [go_sem]) hb1; have ca5 : w1.cell? ⟨w.heap.size + 1, 3, none⟩ = some (.int .i64 k.port) := cell_to (by simp [go_sem]) hb1)
    go_ret2
    exact ⟨by rw [HF.out]; rfl, bel⟩
end Go.Proofs.YtmkjlhplgcifiaaGreat
