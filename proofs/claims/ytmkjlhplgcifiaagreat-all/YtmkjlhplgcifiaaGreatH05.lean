/-
  list.Keep at pods and at policies: a list of its own with what holds.
-/
import Derived.Test.YtmkjlhplgcifiaaGreatH04
import Derived.Test.YtmkjlhplgcifiaaGreatH03
namespace Go.Proofs.YtmkjlhplgcifiaaGreat
open Go.ChangeShapes Go.WideShapes Go.ChangeAt Go.RowKit
set_option linter.unusedVariables false
set_option linter.unusedSimpArgs false
attribute [local simp] World.cell?_grow
attribute [local go_sem] World.cell?_grow eqg_blk std_blk eqg_pod std_pod eqg_sel std_sel eqg_prt std_prt
attribute [local go_sem ↓] eql_blk eql_sel neq_sel eql_prt eql_pod met_in1 met_in2 met_re1 met_re2
theorem info_pod : (Tryz.prog.info? 54).map (fun i => (i.zero, i.size, i.bytes)) = some (some (.agg #[.int .i64 0, .int .i64 0, .int .i64 0, .int .i64 0]), 4, 32) := by kernel_rfl
theorem info_pol : (Tryz.prog.info? 59).map (fun i => (i.zero, i.size, i.bytes)) = some (some (.agg #[.int .i64 0, .int .i64 0, .int .i64 0, .int .i64 0, .slice none 0 0, .slice none 0 0]), 6, 80) := by kernel_rfl
set_option maxRecDepth 100000 in
theorem keepPod (f : DPod → Bool) (k0 k1 : Value) (a : Option Addr) (cap : Nat) (l : List DPod) (w : World) (hl : rdPods w.heap.size w a l)
    (hK : ∀ (x : DPod) (w1 : World), x ∈ l → Below w.heap.size w w1 → Calls Tryz.prog 229 #[.agg #[.int .i64 x.host, .int .i64 x.ip, .int .i64 x.space, .int .i64 x.labels], k0, k1] w1 fun e w2 => e = .returned (.bool (f x)) ∧ Below w1.heap.size w1 w2) :
    Calls Tryz.prog 69 #[.slice a l.length cap, .func (.func 229) #[] #[k0, k1]] w fun e w' => (∃ a' c', e = .returned (.slice a' (l.filter f).length c') ∧ rdPods w'.heap.size w' a' (l.filter f)) ∧ Below w.heap.size w w' := by
  have HK := hid hK
  obtain ⟨hlen, hl⟩ := hl
  have HL := hid hl
  clear hl hK
  obtain ⟨i0, hi, iz0, iz1, iz2⟩ := info_parts info_pod
  go_enter Tryz.func69, Tryz.ntmps69
  go_wp2
  go_loopw [5, 10] (fun kv i wr => ∃ k : Nat, k ≤ l.length ∧ i = .int .i64 k ∧ wr.ownsRow w.heap.size 54 4 kv ((l.take k).filter f).length (((l.take k).filter f).flatMap encPod) ∧ Below w.heap.size w wr) (fun _ i _ => l.length - (intOf i).toNat)
  case atStart => exact ⟨0, Nat.zero_le _, rfl, World.ownsRow_nil _ _ _ _, Below.refl _ _⟩
  case round =>
    obtain ⟨k, hk, rfl, hown, hbw⟩ := hrel
    have HO := hid hown
    clear hown
    have hfl := filter_le l f k
    by_cases hlt : k < l.length
    · obtain ⟨hc, hf⟩ := bcell hbw
      obtain ⟨x, hxk⟩ : ∃ x, l[k]? = some x := ⟨l[k], by simp [hlt]⟩
      have HX := hid hxk
      clear hxk
      obtain ⟨b, off, rfl, hb, c0, c1, c2, c3⟩ := HL.out k x HX.out
      cases hx : f x
      · go_wp2_with (go_at_call 229; refine (HK.out x _ (List.mem_of_getElem? HX.out) bel).mono ?_; rintro e w1 ⟨rfl, hb1⟩; obtain ⟨hc1, hf1⟩ := bcell hb1; have hz1 := hb_lt hb1)
        exact ⟨⟨k + 1, by omega, by go_num, by rw [take_filter' HX.out hx]; exact own_to (HO.out.alloc _) hb1, bel⟩, by simp [intOf]; omega⟩
      · go_wp2_with (first
          | (go_at_call 229; refine (HK.out x _ (List.mem_of_getElem? HX.out) bel).mono ?_; rintro e w1 ⟨rfl, hb1⟩; obtain ⟨hc1, hf1⟩ := bcell hb1; have hz1 := hb_lt hb1; have HO1 := hid (own_to (HO.out.alloc (.cells #[.int .i64 x.host, .int .i64 x.ip, .int .i64 x.space, .int .i64 x.labels] 54)) hb1); have hW1 : Below w.heap.size w w1 := bel)
          | (at_builtin; go_loud (refine wpList_append_own _ rfl _ _ 25 rfl w.heap.size 54 i0 _ 4 32 Tryz.underlying25 hi iz0 iz1 iz2 rfl (by decide) _ _ _ rfl (HO1.out.alloc _) ⟨w1.heap.size, 0, none⟩ 1 1 [.int .i64 x.host, .int .i64 x.ip, .int .i64 x.space, .int .i64 x.labels] rfl rfl (cell_new_list _ [.int .i64 x.host, .int .i64 x.ip, .int .i64 x.space, .int .i64 x.labels] _) (fun u hu => by simp at hu; rcases hu with rfl | rfl | rfl | rfl <;> rfl) (by unfold maxLen; omega) (by omega) (by have := hW1.size; simp; omega) ?_); intro v' w3 hown' hg3 hn3))
        exact ⟨⟨k + 1, by omega, by go_num, by rw [take_filter HX.out hx]; simpa [encPod] using hown', own_below (hW1.alloc hW1.size _) (by have := hW1.size; simp; omega) (HO1.out.alloc _) hg3⟩, by simp [intOf]; omega⟩
    · go_wp2
      have he : l.take k = l := List.take_of_length_le (by omega)
      have ho := HO.out
      rw [he] at ho hfl
      obtain ⟨a', c', rfl, _, hr⟩ := own_pods ho (by omega)
      go_ret
      exact ⟨⟨a', c', rfl, hr⟩, hbw⟩
set_option maxRecDepth 100000 in
theorem keepPol (f : DPol → Bool) (k0 k1 : Value) (a : Option Addr) (cap : Nat) (l : List DPol) (w : World) (hl : rdPols w.heap.size w a l)
    (hK : ∀ (x : DPol) (oa ia : Option Addr) (oc ic : Nat) (w1 : World), x ∈ l → Below w.heap.size w w1 → rdRules w1.heap.size w1 oa x.outs → rdRules w1.heap.size w1 ia x.ins →
      Calls Tryz.prog 123 #[.agg #[.int .i64 x.space, .int .i64 x.need, .int .i64 x.ban, .int .i64 x.ways, .slice oa x.outs.length oc, .slice ia x.ins.length ic], k0, k1] w1 fun e w2 => e = .returned (.bool (f x)) ∧ Below w1.heap.size w1 w2) :
    Calls Tryz.prog 122 #[.slice a l.length cap, .func (.func 123) #[] #[k0, k1]] w fun e w' => (∃ a' c', e = .returned (.slice a' (l.filter f).length c') ∧ rdPols w'.heap.size w' a' (l.filter f)) ∧ Below w.heap.size w w' := by
  have HK := hid hK
  obtain ⟨hlen, hl⟩ := hl
  have HL := hid hl
  clear hl hK
  obtain ⟨i0, hi, iz0, iz1, iz2⟩ := info_parts info_pol
  go_enter Tryz.func122, Tryz.ntmps122
  go_wp2
  go_loopw [5, 10] (fun kv i wr => ∃ (k : Nat) (rs : List RPol), k ≤ l.length ∧ i = .int .i64 k ∧ rs.map (·.d) = (l.take k).filter f ∧ (∀ r ∈ rs, r.ok w.heap.size w) ∧ wr.ownsRow w.heap.size 59 6 kv rs.length (rs.flatMap encPol) ∧ Below w.heap.size w wr) (fun _ i _ => l.length - (intOf i).toNat)
  case atStart => exact ⟨0, [], Nat.zero_le _, rfl, rfl, fun r hr => by simp at hr, World.ownsRow_nil _ _ _ _, Below.refl _ _⟩
  case round =>
    obtain ⟨k, rs, hk, rfl, hmap, hrs, hown, hbw⟩ := hrel
    have HO := hid hown
    have HM := hid hmap
    have HR := hid hrs
    have hrl : rs.length ≤ k := by have := filter_le l f k; rw [← hmap] at this; simpa using this
    clear hown hmap hrs
    by_cases hlt : k < l.length
    · obtain ⟨hc, hf⟩ := bcell hbw
      obtain ⟨x, hxk⟩ : ∃ x, l[k]? = some x := ⟨l[k], by simp [hlt]⟩
      have HX := hid hxk
      clear hxk
      obtain ⟨b, off, rfl, hb, c0, c1, c2, c3, ⟨oa, oc, c4, ho⟩, ia, ic, c5, hi2⟩ := HL.out k x HX.out
      have HA := hid ho
      have HB := hid hi2
      clear ho hi2
      cases hx : f x
      · go_wp2_with (go_at_call 123; refine (HK.out x _ _ _ _ _ (List.mem_of_getElem? HX.out) bel (rdRules.to HA.out bel) (rdRules.to HB.out bel)).mono ?_; rintro e w1 ⟨rfl, hb1⟩; obtain ⟨hc1, hf1⟩ := bcell hb1; have hz1 := hb_lt hb1)
        exact ⟨⟨k + 1, rs, by omega, by go_num, by rw [take_filter' HX.out hx]; exact HM.out, HR.out, own_to (HO.out.alloc _) hb1, bel⟩, by simp [intOf]; omega⟩
      · go_wp2_with (first
          | (go_at_call 123; refine (HK.out x _ _ _ _ _ (List.mem_of_getElem? HX.out) bel (rdRules.to HA.out bel) (rdRules.to HB.out bel)).mono ?_; rintro e w1 ⟨rfl, hb1⟩; obtain ⟨hc1, hf1⟩ := bcell hb1; have hz1 := hb_lt hb1; have HO1 := hid (own_to (HO.out.alloc (.cells #[.int .i64 x.space, .int .i64 x.need, .int .i64 x.ban, .int .i64 x.ways, .slice oa x.outs.length oc, .slice ia x.ins.length ic] 59)) hb1); have hW1 : Below w.heap.size w w1 := bel)
          | (at_builtin; refine wpList_append_own _ rfl _ _ 26 rfl w.heap.size 59 i0 _ 6 80 Tryz.underlying26 hi iz0 iz1 iz2 rfl (by decide) _ _ _ rfl (HO1.out.alloc _) ⟨w1.heap.size, 0, none⟩ 1 1 [.int .i64 x.space, .int .i64 x.need, .int .i64 x.ban, .int .i64 x.ways, .slice oa x.outs.length oc, .slice ia x.ins.length ic] rfl rfl (cell_new_list _ [.int .i64 x.space, .int .i64 x.need, .int .i64 x.ban, .int .i64 x.ways, .slice oa x.outs.length oc, .slice ia x.ins.length ic] _) (fun u hu => by simp at hu; rcases hu with rfl | rfl | rfl | rfl | rfl | rfl <;> rfl) (by unfold maxLen; omega) (by omega) (by have := hW1.size; simp; omega) ?_; intro v' w3 hown' hg3 hn3))
        exact ⟨⟨k + 1, rs ++ [⟨x, .slice oa x.outs.length oc, .slice ia x.ins.length ic⟩], by omega, by go_num, by rw [take_filter HX.out hx, ← HM.out]; simp, fun r hr => by
            rcases List.mem_append.1 hr with h | h
            · exact HR.out r h
            · simp at h; subst h; exact ⟨⟨oa, oc, rfl, HA.out⟩, ia, ic, rfl, HB.out⟩, by simpa [encPol] using hown', own_below (hW1.alloc hW1.size _) (by have := hW1.size; simp; omega) (HO1.out.alloc _) hg3⟩, by simp [intOf]; omega⟩
    · go_wp2
      have he : l.take k = l := List.take_of_length_le (by omega)
      have ho := HO.out
      have hm := HM.out
      rw [he] at hm
      obtain ⟨a', c', rfl, _, hr⟩ := own_pols ho (by omega) hbw HR.out
      have hl2 : rs.length = (l.filter f).length := by rw [← hm]; simp
      rw [hm] at hr
      rw [hl2]
      go_ret
      exact ⟨⟨a', c', rfl, hr⟩, hbw⟩
def spaceBit (sp s : Int) : Bool := sp / 2 ^ s.toNat % 2 == 1
def sfrom (spaces own : Int) : Int := if spaces = 0 then 2 ^ own.toNat else spaces
theorem bit_fin : ∀ sp : Fin 16, ∀ s : Fin 4, (bits .and .i64 (sp.val : Int) (wrap64 (2 ^ s.val)) != 0) = (((sp.val : Int) / 2 ^ s.val % 2 == 1) : Bool) := by decide +kernel
theorem bit_eq (sp s : Int) (h0 : 0 ≤ sp) (h1 : sp ≤ 15) (h2 : 0 ≤ s) (h3 : s ≤ 3) : (bits .and .i64 sp (wrap64 (2 ^ s.toNat)) != 0) = spaceBit sp s := by
  obtain ⟨a, rfl⟩ := Int.eq_ofNat_of_zero_le h0
  obtain ⟨b, rfl⟩ := Int.eq_ofNat_of_zero_le h2
  exact bit_fin ⟨a, by omega⟩ ⟨b, by omega⟩
theorem own_fin : ∀ o : Fin 4, ∀ s : Fin 4, ((((2 : Int) ^ o.val) / 2 ^ s.val % 2 == 1) : Bool) = decide ((s.val : Int) = o.val) := by decide +kernel
theorem own_eq (o s : Int) (h0 : 0 ≤ o) (h1 : o ≤ 3) (h2 : 0 ≤ s) (h3 : s ≤ 3) : spaceBit (2 ^ o.toNat) s = decide (s = o) := by
  obtain ⟨a, rfl⟩ := Int.eq_ofNat_of_zero_le h0
  obtain ⟨b, rfl⟩ := Int.eq_ofNat_of_zero_le h2
  exact own_fin ⟨a, by omega⟩ ⟨b, by omega⟩
theorem pow_own : ∀ o : Fin 4, wrap64 ((2 : Int) ^ o.val) = 2 ^ o.val ∧ 0 ≤ (2 : Int) ^ o.val ∧ (2 : Int) ^ o.val ≤ 15 := by decide +kernel
theorem pow_own' (o : Int) (h0 : 0 ≤ o) (h1 : o ≤ 3) : wrap64 ((2 : Int) ^ o.toNat) = 2 ^ o.toNat ∧ 0 ≤ (2 : Int) ^ o.toNat ∧ (2 : Int) ^ o.toNat ≤ 15 := by
  obtain ⟨a, rfl⟩ := Int.eq_ofNat_of_zero_le h0
  exact pow_own ⟨a, by omega⟩
theorem cell_past {w : World} {o : Obj} {a : Addr} {v : Value} (h : w.cell? a = some v) : (w.alloc o).cell? a = some v := by
  rw [World.cell?_alloc_lt _ _ _ (World.block_lt_of_cell? w a h)]; exact h
theorem podsClo (p : DPod) (sp need ban : Int) (sb ob : Nat) (w : World) (hs0 : 0 ≤ p.space) (hs1 : p.space ≤ 3) (hl0 : 0 ≤ p.labels) (hl1 : p.labels ≤ 255)
    (hsp0 : 0 ≤ sp) (hsp1 : sp ≤ 15) (hn0 : 0 ≤ need) (hn1 : need ≤ 255) (hb0 : 0 ≤ ban) (hb1 : ban ≤ 255)
    (c2 : w.cell? ⟨sb, 0, none⟩ = some (.int .i64 sp)) (c3 : w.cell? ⟨ob, 1, none⟩ = some (.int .i64 need)) (c4 : w.cell? ⟨ob, 2, none⟩ = some (.int .i64 ban)) :
    Calls Tryz.prog 229 #[.agg #[.int .i64 p.host, .int .i64 p.ip, .int .i64 p.space, .int .i64 p.labels], .pointer (some ⟨sb, 0, none⟩), .pointer (some ⟨ob, 0, none⟩)] w
      fun e w' => e = .returned (.bool (spaceBit sp p.space && sels need ban p.labels)) ∧ Below w.heap.size w w' := by
  have l2 := cell_lt c2
  have l3 := cell_lt c3
  have HB := hid (bit_eq sp p.space hsp0 hsp1 hs0 hs1)
  cases hq2 : (bits .and .i64 sp (wrap64 (2 ^ p.space.toNat)) != 0)
  · have HG := hid (show spaceBit sp p.space = false by rw [← HB.out]; exact hq2)
    go_enter Tryz.func229, Tryz.ntmps229
    go_wp2
    refine wp_region_grow (by kernel_rfl) (by kernel_rfl) ?_
    repeat (go_big_quiet_step (fail))
    refine wpQuiet_nil ?_
    intro w1 hb1
    obtain ⟨hc1, hf1⟩ := bcell hb1
    have hz1 := hb_lt hb1
    go_wp2
    go_ret
    exact ⟨ret_bool (by rw [HG.out]; simp), bel⟩
  · have HG := hid (show spaceBit sp p.space = true by rw [← HB.out]; exact hq2)
    go_enter Tryz.func229, Tryz.ntmps229
    go_wp2
    refine wp_region_grow (by kernel_rfl) (by kernel_rfl) ?_
    repeat (go_big_quiet_step (first
      | (go_at_call 154; exact Calls.grow_of (selects_any _ _ _ _ _ _ _ hn0 hn1 hb0 hb1 hl0 hl1))))
    refine wpQuiet_nil ?_
    intro w1 hb1
    obtain ⟨hc1, hf1⟩ := bcell hb1
    have hz1 := hb_lt hb1
    go_wp2
    go_ret
    exact ⟨ret_bool (by rw [HG.out]; simp), bel⟩
theorem spacesFrom_any (x : DPeer) (ea : Option Addr) (en ec : Nat) (own : Int) (w : World) (h0 : 0 ≤ own) (h1 : own ≤ 3) :
    Calls Tryz.prog 228 #[.agg #[.int .i64 x.kind, .int .i64 x.need, .int .i64 x.ban, .int .i64 x.spaces, .int .i64 x.base, .int .i64 x.bits, .slice ea en ec], .int .i64 own] w fun e w' => e = .returned (.int .i64 (sfrom x.spaces own)) ∧ Below w.heap.size w w' := by
  have HW := hid (pow_own' own h0 h1).1
  by_cases h : x.spaces = 0
  · have HS := hid (show sfrom x.spaces own = 2 ^ own.toNat by rw [sfrom, if_pos h])
    have h2 : (x.spaces == 0) = true := by simp [h]
    clear h
    go_enter Tryz.func228, Tryz.ntmps228
    go_wp2
    rw [HW.out]
    go_ret
    exact ⟨by rw [HS.out]; rfl, bel⟩
  · have HS := hid (show sfrom x.spaces own = x.spaces by rw [sfrom, if_neg h])
    have h2 : (x.spaces == 0) = false := by simp [h]
    clear h
    go_enter Tryz.func228, Tryz.ntmps228
    go_wp2
    go_ret
    exact ⟨by rw [HS.out]; rfl, bel⟩
def podsOk (l : List DPod) : Prop := (∀ p ∈ l, podOk p = true) ∧ l.Pairwise fun a b => a.ip ≠ b.ip
theorem podOk_true {p : DPod} : podOk p = true ↔ (0 ≤ p.host ∧ p.host ≤ 3) ∧ (0 ≤ p.ip ∧ p.ip ≤ 4294967295) ∧ (0 ≤ p.space ∧ p.space ≤ 3) ∧ 0 ≤ p.labels ∧ p.labels ≤ 255 := by
  simp [podOk, btw, and_assoc]
theorem selOk_true {a b : Int} : selOk a b = true ↔ (0 ≤ a ∧ a ≤ 255) ∧ 0 ≤ b ∧ b ≤ 255 := by simp [selOk, btw, and_assoc]
def chosen (pods : List DPod) (space : Int) (x : DPeer) : List DPod := pods.filter fun p => spaceBit (sfrom x.spaces space) p.space && sels x.need x.ban p.labels
theorem taken_filter (l : List DPod) (ip : Int) (q : DPod → Bool) : (podAt (l.filter q) ip).isSome = l.any fun p => decide (p.ip = ip) && q p := by
  induction l with
  | nil => rfl
  | cons a t ih =>
    unfold podAt at *
    cases hq : q a
    · rw [List.filter_cons_of_neg (by simp [hq]), List.any_cons, hq, Bool.and_false, Bool.false_or]; exact ih
    · rw [List.filter_cons_of_pos hq, List.find?_cons, List.any_cons, hq, Bool.and_true]
      by_cases e : a.ip = ip
      · simp [e]
      · simp only [decide_eq_false e, Bool.false_or]; exact ih
set_option maxHeartbeats 1000000 in
theorem chosen_any (x : DPeer) (ea : Option Addr) (en ec : Nat) (space : Int) (sa : Option Addr) (pods : List DPod) (sc : Nat) (w : World) (hp : rdPods w.heap.size w sa pods) (ho : podsOk pods)
    (hs : selOk x.need x.ban = true) (hsp0 : 0 ≤ x.spaces) (hsp1 : x.spaces ≤ 15) (h0 : 0 ≤ space) (h1 : space ≤ 3) :
    Calls Tryz.prog 226 #[.agg #[.int .i64 x.kind, .int .i64 x.need, .int .i64 x.ban, .int .i64 x.spaces, .int .i64 x.base, .int .i64 x.bits, .slice ea en ec], .agg #[.int .i64 space, .slice sa pods.length sc]] w
      fun e w' => (∃ a c, e = .returned (.slice a (chosen pods space x).length c) ∧ rdPods w'.heap.size w' a (chosen pods space x)) ∧ Below w.heap.size w w' := by
  have HR := hid hp
  have HO := hid ho
  obtain ⟨⟨hn0, hn1⟩, hb0, hb1'⟩ := selOk_true.1 hs
  have hsf : 0 ≤ sfrom x.spaces space ∧ sfrom x.spaces space ≤ 15 := by
    have := pow_own' space h0 h1
    unfold sfrom
    split <;> omega
  have hmf := mkFunc
  clear hp ho hs
  go_enter Tryz.func226, Tryz.ntmps226
  go_wp2_with (first
    | (go_at_call 228; refine (spacesFrom_any x _ _ _ _ _ h0 h1).mono ?_; rintro e w1 ⟨rfl, hb1⟩; obtain ⟨hc1, hf1⟩ := bcell hb1; have hz1 := hb_lt hb1)
    | (go_at_call 69; go_must (refine (keepPod (fun p => spaceBit (sfrom x.spaces space) p.space && sels x.need x.ban p.labels) _ _ _ _ _ _ (rdPods.to HR.out bel) (fun p w2 hp hb2 => podsClo p _ _ _ _ _ w2 (podOk_true.1 (HO.out.1 p hp)).2.2.1.1 (podOk_true.1 (HO.out.1 p hp)).2.2.1.2 (podOk_true.1 (HO.out.1 p hp)).2.2.2.1 (podOk_true.1 (HO.out.1 p hp)).2.2.2.2 hsf.1 hsf.2 hn0 hn1 hb0 hb1' (cell_to (by simp [go_sem]) hb2) (cell_to (cell_past (cell_to (by simp [go_sem]) hb1)) hb2) (cell_to (cell_past (cell_to (by simp [go_sem]) hb1)) hb2))).mono ?_); rintro e w3 ⟨⟨a', c', rfl, hr3⟩, hb3⟩; have HR3 := hid hr3; clear hr3))
  go_ret
  exact ⟨⟨_, _, rfl, HR3.out⟩, bel⟩
set_option maxHeartbeats 1000000 in
theorem hasPods_any (x : DPeer) (ea : Option Addr) (en ec : Nat) (ip space : Int) (sa : Option Addr) (pods : List DPod) (sc : Nat) (w : World) (hp : rdPods w.heap.size w sa pods) (ho : podsOk pods)
    (hs : selOk x.need x.ban = true) (hsp0 : 0 ≤ x.spaces) (hsp1 : x.spaces ≤ 15) (h0 : 0 ≤ space) (h1 : space ≤ 3) :
    Calls Tryz.prog 223 #[.agg #[.int .i64 x.kind, .int .i64 x.need, .int .i64 x.ban, .int .i64 x.spaces, .int .i64 x.base, .int .i64 x.bits, .slice ea en ec], .int .i64 ip, .agg #[.int .i64 space, .slice sa pods.length sc]] w
      fun e w' => e = .returned (.bool (pods.any fun p => decide (p.ip = ip) && (spaceBit (sfrom x.spaces space) p.space && sels x.need x.ban p.labels))) ∧ Below w.heap.size w w' := by
  have HR := hid hp
  have HO := hid ho
  have HS := hid hs
  have HT := hid (taken_filter pods ip fun p => spaceBit (sfrom x.spaces space) p.space && sels x.need x.ban p.labels)
  clear hp ho hs
  go_enter Tryz.func223, Tryz.ntmps223
  go_wp2_with (first
    | (go_at_call 226; refine (chosen_any x _ _ _ _ _ _ _ _ (rdPods.to HR.out bel) HO.out HS.out hsp0 hsp1 h0 h1).mono ?_; rintro e w1 ⟨⟨a', c', rfl, hr1⟩, hb1⟩; have HR1 := hid hr1; clear hr1)
    | (go_at_call 68; refine (taken_any _ _ _ _ _ HR1.out).mono ?_; unfold chosen; rw [HT.out]; rintro e w2 ⟨rfl, hb2⟩; obtain ⟨hc2, hf2⟩ := bcell hb2; have hz2 := hb_lt hb2))
  go_ret
  exact ⟨rfl, bel⟩
end Go.Proofs.YtmkjlhplgcifiaaGreat
namespace Go.Proofs.YtmkjlhplgcifiaaGreat
open Go.ChangeShapes Go.WideShapes Go.ChangeAt Go.RowKit
set_option linter.unusedVariables false
set_option linter.unusedSimpArgs false
attribute [local simp] World.cell?_grow
attribute [local go_sem] World.cell?_grow eqg_blk std_blk eqg_pod std_pod eqg_sel std_sel eqg_prt std_prt
attribute [local go_sem ↓] eql_blk eql_sel neq_sel eql_prt eql_pod
theorem allRule (f : DRule → Bool) (a : Option Addr) (cap : Nat) (l : List DRule) (w : World) (hl : rdRules w.heap.size w a l)
    (hK : ∀ (x : DRule) (pa qa : Option Addr) (pc qc : Nat) (w1 : World), x ∈ l → Below w.heap.size w w1 → rdPeers w1.heap.size w1 pa x.peers → rdPorts w1.heap.size w1 qa x.ports → Calls Tryz.prog 121 #[.agg #[.slice pa x.peers.length pc, .slice qa x.ports.length qc]] w1 fun e w2 => e = .returned (.bool (f x)) ∧ Below w1.heap.size w1 w2) :
    Calls Tryz.prog 149 #[.slice a l.length cap, .func (.func 121) #[] #[]] w fun e w' => e = .returned (.bool (l.all f)) ∧ Below w.heap.size w w' := by
  have HK := hid hK
  obtain ⟨hlen, hl⟩ := hl
  have HL := hid hl
  clear hl hK
  go_enter Tryz.func149, Tryz.ntmps149
  go_wp2
  go_loopw [9] (fun i wr => ∃ k : Nat, k ≤ l.length ∧ i = .int .i64 k ∧ (l.take k).all f = true ∧ Below w.heap.size w wr) (fun i _ => l.length - (intOf i).toNat)
  case atStart => exact ⟨0, Nat.zero_le _, rfl, rfl, Below.refl _ _⟩
  case round =>
    obtain ⟨k, hk, rfl, hall, hbw⟩ := hrel
    have HA := hid hall
    clear hall
    by_cases hlt : k < l.length
    · obtain ⟨hc, hf⟩ := bcell hbw
      obtain ⟨x, hxk⟩ : ∃ x, l[k]? = some x := ⟨l[k], by simp [hlt]⟩
      have HX := hid hxk
      clear hxk
      obtain ⟨b, off, rfl, hb, ⟨pa, pc, c0, hrp⟩, qa, qc, c1, hrq⟩ := HL.out k x HX.out
      cases hx : f x
      · go_wp2_with (go_at_call 121; refine (HK.out x pa qa pc qc _ (List.mem_of_getElem? HX.out) bel (rdPeers.to hrp bel) (rdPorts.to hrq bel)).mono ?_; rintro e w1 ⟨rfl, hb1⟩)
        go_ret
        exact ⟨ret_bool (by rw [all_false HX.out hx]), bel⟩
      · go_wp2_with (go_at_call 121; refine (HK.out x pa qa pc qc _ (List.mem_of_getElem? HX.out) bel (rdPeers.to hrp bel) (rdPorts.to hrq bel)).mono ?_; rintro e w1 ⟨rfl, hb1⟩)
        exact ⟨⟨k + 1, by omega, by go_num, take_all HX.out HA.out hx, bel⟩, by simp [intOf]; omega⟩
    · go_wp2
      go_ret
      have := HA.out
      rw [List.take_of_length_le (by omega)] at this
      exact ⟨ret_bool (by rw [this]), hbw⟩
theorem fewRule (f : DRule → Bool) (a : Option Addr) (cap : Nat) (l : List DRule) (most : Int) (w : World) (hl : rdRules w.heap.size w a l)
    (hK : ∀ (x : DRule) (pa qa : Option Addr) (pc qc : Nat) (w1 : World), x ∈ l → Below w.heap.size w w1 → rdPeers w1.heap.size w1 pa x.peers → rdPorts w1.heap.size w1 qa x.ports → Calls Tryz.prog 121 #[.agg #[.slice pa x.peers.length pc, .slice qa x.ports.length qc]] w1 fun e w2 => e = .returned (.bool (f x)) ∧ Below w1.heap.size w1 w2) :
    Calls Tryz.prog 120 #[.slice a l.length cap, .int .i64 most, .func (.func 121) #[] #[]] w fun e w' => e = .returned (.bool (few l most f)) ∧ Below w.heap.size w w' := by
  have HK := hid hK
  have HL := hid hl
  have hlen := hl.1
  clear hK hl
  by_cases h : (l.length : Int) ≤ most
  · have HF := hid (show few l most f = l.all f by simp [few, h])
    go_enter Tryz.func120, Tryz.ntmps120
    go_wp2_with (go_at_call 149; refine (allRule f _ _ _ _ HL.out HK.out).mono ?_; rintro e w1 ⟨rfl, hb1⟩)
    go_ret
    exact ⟨ret_bool (by rw [HF.out]), bel⟩
  · have HF := hid (show few l most f = false by simp [few, h])
    go_enter Tryz.func120, Tryz.ntmps120
    go_wp2
    go_ret
    exact ⟨ret_bool (by rw [HF.out]), bel⟩
theorem anyRule (f : DRule → Bool) (k0 k1 k2 : Value) (a : Option Addr) (cap : Nat) (l : List DRule) (w : World) (hl : rdRules w.heap.size w a l)
    (hK : ∀ (x : DRule) (pa qa : Option Addr) (pc qc : Nat) (w1 : World), x ∈ l → Below w.heap.size w w1 → rdPeers w1.heap.size w1 pa x.peers → rdPorts w1.heap.size w1 qa x.ports → Calls Tryz.prog 128 #[.agg #[.slice pa x.peers.length pc, .slice qa x.ports.length qc], k0, k1, k2] w1 fun e w2 => e = .returned (.bool (f x)) ∧ Below w1.heap.size w1 w2) :
    Calls Tryz.prog 126 #[.slice a l.length cap, .func (.func 128) #[] #[k0, k1, k2]] w fun e w' => e = .returned (.bool (l.any f)) ∧ Below w.heap.size w w' := by
  have HK := hid hK
  obtain ⟨hlen, hl⟩ := hl
  have HL := hid hl
  clear hl hK
  go_enter Tryz.func126, Tryz.ntmps126
  go_wp2
  go_loopw [9] (fun i wr => ∃ k : Nat, k ≤ l.length ∧ i = .int .i64 k ∧ (l.take k).any f = false ∧ Below w.heap.size w wr) (fun i _ => l.length - (intOf i).toNat)
  case atStart => exact ⟨0, Nat.zero_le _, rfl, rfl, Below.refl _ _⟩
  case round =>
    obtain ⟨k, hk, rfl, hall, hbw⟩ := hrel
    have HA := hid hall
    clear hall
    by_cases hlt : k < l.length
    · obtain ⟨hc, hf⟩ := bcell hbw
      obtain ⟨x, hxk⟩ : ∃ x, l[k]? = some x := ⟨l[k], by simp [hlt]⟩
      have HX := hid hxk
      clear hxk
      obtain ⟨b, off, rfl, hb, ⟨pa, pc, c0, hrp⟩, qa, qc, c1, hrq⟩ := HL.out k x HX.out
      cases hx : f x
      · go_wp2_with (go_at_call 128; refine (HK.out x pa qa pc qc _ (List.mem_of_getElem? HX.out) bel (rdPeers.to hrp bel) (rdPorts.to hrq bel)).mono ?_; rintro e w1 ⟨rfl, hb1⟩)
        exact ⟨⟨k + 1, by omega, by go_num, take_any HX.out HA.out hx, bel⟩, by simp [intOf]; omega⟩
      · go_wp2_with (go_at_call 128; refine (HK.out x pa qa pc qc _ (List.mem_of_getElem? HX.out) bel (rdPeers.to hrp bel) (rdPorts.to hrq bel)).mono ?_; rintro e w1 ⟨rfl, hb1⟩)
        go_ret
        exact ⟨ret_bool (by rw [any_true HX.out hx]), bel⟩
    · go_wp2
      go_ret
      have := HA.out
      rw [List.take_of_length_le (by omega)] at this
      exact ⟨ret_bool (by rw [this]), hbw⟩
end Go.Proofs.YtmkjlhplgcifiaaGreat
namespace Go.Proofs.YtmkjlhplgcifiaaGreat
open Go.ChangeShapes Go.WideShapes Go.ChangeAt Go.RowKit
set_option linter.unusedVariables false
set_option linter.unusedSimpArgs false
attribute [local simp] World.cell?_grow
attribute [local go_sem] World.cell?_grow eqg_blk std_blk eqg_pod std_pod eqg_sel std_sel eqg_prt std_prt
attribute [local go_sem ↓] eql_blk eql_sel neq_sel eql_prt eql_pod met_in1 met_in2 met_re1 met_re2
theorem met_has1 (c0 c1 c2 c3 c4 c5 c6 : Value) (w : World) : (method 379 227 (.agg #[c0, c1, c2, c3, c4, c5, c6]) "palisade/peer.has").run Tryz.prog w = .ok (223, .agg #[c0, c1, c2, c3, c4, c5, c6]) w := by kernel_rfl
theorem met_has2 (c0 c1 c2 c3 c4 c5 c6 : Value) (w : World) : (method 379 228 (.agg #[c0, c1, c2, c3, c4, c5, c6]) "palisade/peer.has").run Tryz.prog w = .ok (231, .agg #[c0, c1, c2, c3, c4, c5, c6]) w := by kernel_rfl
attribute [local go_sem ↓] met_has1 met_has2
theorem any_podAt (l : List DPod) (ip : Int) (q : DPod → Bool) (h : l.Pairwise fun a b => a.ip ≠ b.ip) :
    (l.any fun p => decide (p.ip = ip) && q p) = (match podAt l ip with | none => false | some p => q p) := by
  induction l with
  | nil => rfl
  | cons a t ih =>
    obtain ⟨h1, h2⟩ := List.pairwise_cons.1 h
    have ih := ih h2
    unfold podAt at *
    by_cases e : a.ip = ip
    · have : (t.any fun p => decide (p.ip = ip) && q p) = false := by
        rw [Bool.eq_false_iff]
        intro h3
        obtain ⟨p, hp, hq⟩ := List.any_eq_true.1 h3
        simp only [Bool.and_eq_true, decide_eq_true_eq] at hq
        exact h1 p hp (by rw [e, hq.1])
      simp [List.find?_cons, e, this]
    · simp only [List.any_cons, List.find?_cons, decide_eq_false e, Bool.false_and, Bool.false_or]
      exact ih
theorem peerHas_pods (pods : List DPod) (space ip : Int) (x : DPeer) (hk : x.kind = 1) (ho : podsOk pods) (h0 : 0 ≤ space) (h1 : space ≤ 3) :
    (pods.any fun p => decide (p.ip = ip) && (spaceBit (sfrom x.spaces space) p.space && sels x.need x.ban p.labels)) = peerHas pods space ip x := by
  rw [any_podAt _ _ _ ho.2, peerHas, if_neg (by omega)]
  cases hp : podAt pods ip with
  | none => rfl
  | some p =>
    have hm : p ∈ pods := List.mem_of_find?_eq_some hp
    have hb := (podOk_true.1 (ho.1 p hm)).2.2.1
    show (spaceBit (sfrom x.spaces space) p.space && sels x.need x.ban p.labels) = _
    rw [Bool.and_comm]
    congr 1
    unfold sfrom
    split
    · exact own_eq space p.space h0 h1 hb.1 hb.2
    · rfl
theorem peerOk_pods' {x : DPeer} (h : peerOk x = true) (hk : x.kind = 1) : selOk x.need x.ban = true ∧ 0 ≤ x.spaces ∧ x.spaces ≤ 15 := by
  rw [peerOk, if_pos hk] at h
  simp only [Bool.and_eq_true, btw, decide_eq_true_eq] at h
  exact ⟨h.1.1.1.1, h.1.1.1.2⟩
theorem peerOk_blocks' {x : DPeer} (h : peerOk x = true) (hk : ¬ x.kind = 1) : x.kind = 2 ∧ blkOk ⟨x.base, x.bits⟩ = true ∧ x.exc.all blkOk = true := by
  rw [peerOk, if_neg hk] at h
  simp only [Bool.and_eq_true, few, decide_eq_true_eq] at h
  exact ⟨h.1.1.1.1.1, h.1.1.1.1.2, h.2.2⟩
set_option maxRecDepth 100000 in
theorem peerHas_any (x : DPeer) (ea : Option Addr) (ec : Nat) (ip space : Int) (sa : Option Addr) (pods : List DPod) (sc : Nat) (w : World) (hr : rdBlks w.heap.size w ea x.exc) (hp : rdPods w.heap.size w sa pods) (ho : podsOk pods)
    (hx : peerOk x = true) (i0 : 0 ≤ ip) (i1 : ip ≤ 4294967295) (h0 : 0 ≤ space) (h1 : space ≤ 3) :
    Calls Tryz.prog 157 #[.agg #[.int .i64 x.kind, .int .i64 x.need, .int .i64 x.ban, .int .i64 x.spaces, .int .i64 x.base, .int .i64 x.bits, .slice ea x.exc.length ec], .int .i64 ip, .agg #[.int .i64 space, .slice sa pods.length sc]] w
      fun e w' => e = .returned (.bool (peerHas pods space ip x)) ∧ Below w.heap.size w w' := by
  have HR := hid hr
  have HP := hid hp
  have HO := hid ho
  by_cases hk : x.kind = 1
  · obtain ⟨hs, hs0, hs1⟩ := peerOk_pods' hx hk
    have HS := hid hs
    have HF := hid (peerHas_pods pods space ip x hk ho h0 h1)
    have HK := hid hk
    clear hr hp ho hx hk hs
    go_enter Tryz.func157, Tryz.ntmps157
    go_wp2_with (first
      | (go_at_call 172; refine (kindOf_pods _ _ _ _ HK.out).mono ?_; rintro e w1 ⟨rfl, hb1⟩; obtain ⟨hc1, hf1⟩ := bcell hb1; have hz1 := hb_lt hb1)
      | (go_at_call 223; refine (hasPods_any x _ _ _ _ _ _ _ _ _ (rdPods.to HP.out bel) HO.out HS.out hs0 hs1 h0 h1).mono ?_; rw [HF.out]; rintro e w1 ⟨rfl, hb1⟩; obtain ⟨hc1, hf1⟩ := bcell hb1; have hz1 := hb_lt hb1))
    go_ret
    exact ⟨rfl, bel⟩
  · obtain ⟨hk2, hb, he⟩ := peerOk_blocks' hx hk
    have HS := hid hb
    have HE := hid he
    have HF := hid (show (blkHas ip ⟨x.base, x.bits⟩ && !(x.exc.any (blkHas ip))) = peerHas pods space ip x by rw [peerHas, if_pos hk2])
    have HK := hid hk2
    clear hr hp ho hx hk hk2 hb he
    go_enter Tryz.func157, Tryz.ntmps157
    go_wp2_with (first
      | (go_at_call 172; refine (kindOf_blocks _ _ _ _ HK.out).mono ?_; rintro e w1 ⟨rfl, hb1⟩; obtain ⟨hc1, hf1⟩ := bcell hb1; have hz1 := hb_lt hb1)
      | (go_at_call 231; refine (hasBlocks_any x _ _ _ _ _ _ _ _ (rdBlks.to HR.out bel) HS.out HE.out i0 i1).mono ?_; rw [HF.out]; rintro e w1 ⟨rfl, hb1⟩; obtain ⟨hc1, hf1⟩ := bcell hb1; have hz1 := hb_lt hb1))
    go_ret
    exact ⟨rfl, bel⟩
theorem fitsClo1 (x : DPeer) (ea : Option Addr) (ec : Nat) (far space : Int) (sa : Option Addr) (pods : List DPod) (sc : Nat) (fb nb : Nat) (w : World) (hr : rdBlks w.heap.size w ea x.exc) (hp : rdPods w.heap.size w sa pods) (ho : podsOk pods)
    (hx : peerOk x = true) (i0 : 0 ≤ far) (i1 : far ≤ 4294967295) (h0 : 0 ≤ space) (h1 : space ≤ 3)
    (c1 : w.cell? ⟨fb, 0, none⟩ = some (.int .i64 far)) (c2 : w.cell? ⟨nb, 0, none⟩ = some (.int .i64 space)) (c3 : w.cell? ⟨nb, 1, none⟩ = some (.slice sa pods.length sc)) :
    Calls Tryz.prog 156 #[.agg #[.int .i64 x.kind, .int .i64 x.need, .int .i64 x.ban, .int .i64 x.spaces, .int .i64 x.base, .int .i64 x.bits, .slice ea x.exc.length ec], .pointer (some ⟨fb, 0, none⟩), .pointer (some ⟨nb, 0, none⟩)] w
      fun e w' => e = .returned (.bool (peerHas pods space far x)) ∧ Below w.heap.size w w' := by
  have HR := hid hr
  have HP := hid hp
  have HO := hid ho
  have HX := hid hx
  have l1 := cell_lt c1
  have l2 := cell_lt c2
  clear hr hp ho hx
  go_enter Tryz.func156, Tryz.ntmps156
  go_wp2_with (go_at_call 157; refine (peerHas_any x _ _ _ _ _ _ _ _ (rdBlks.to HR.out bel) (rdPods.to HP.out bel) HO.out HX.out i0 i1 h0 h1).mono ?_; rintro e w1 ⟨rfl, hb1⟩; obtain ⟨hc1, hf1⟩ := bcell hb1; have hz1 := hb_lt hb1)
  go_ret
  exact ⟨rfl, bel⟩
theorem fitsClo2 (x : DPort) (k : DPkt) (kb : Nat) (w : World) (c0 : w.cell? ⟨kb, 0, none⟩ = some (.int .i64 k.src)) (c1 : w.cell? ⟨kb, 1, none⟩ = some (.int .i64 k.dst)) (c2 : w.cell? ⟨kb, 2, none⟩ = some (.int .i64 k.proto)) (c3 : w.cell? ⟨kb, 3, none⟩ = some (.int .i64 k.port)) :
    Calls Tryz.prog 159 #[.agg #[.int .i64 x.proto, .int .i64 x.lo, .int .i64 x.hi], .pointer (some ⟨kb, 0, none⟩)] w
      fun e w' => e = .returned (.bool (prtFits k x)) ∧ Below w.heap.size w w' := by
  have l1 := cell_lt c1
  go_enter Tryz.func159, Tryz.ntmps159
  go_wp2_with (go_at_call 105; refine (prtFits_any x k _).mono ?_; rintro e w1 ⟨rfl, hb1⟩; obtain ⟨hc1, hf1⟩ := bcell hb1; have hz1 := hb_lt hb1)
  go_ret
  exact ⟨rfl, bel⟩
theorem ruleRight_any (x : DRule) (pa qa : Option Addr) (pc qc : Nat) (w : World) (hp : rdPeers w.heap.size w pa x.peers) (hq : rdPorts w.heap.size w qa x.ports) :
    Calls Tryz.prog 121 #[.agg #[.slice pa x.peers.length pc, .slice qa x.ports.length qc]] w fun e w' => e = .returned (.bool (rulOk x)) ∧ Below w.heap.size w w' := by
  have HP := hid hp
  have HQ := hid hq
  clear hp hq
  go_enter Tryz.func121, Tryz.ntmps121
  cases hq1 : few x.peers 2 peerOk
  · go_wp2_with (first
      | (go_at_call 150; refine (fewPeer peerOk _ _ _ _ _ (rdPeers.to HP.out bel) (fun x ea ec w1 _ _ hr => peerRight_any x ea ec w1 hr)).mono ?_; rintro e w1 ⟨rfl, hb1⟩; obtain ⟨hc1, hf1⟩ := bcell hb1; have hz1 := hb_lt hb1)
      | (go_at_call 152; refine (fewPort prtOk _ _ _ _ _ (rdPorts.to HQ.out bel) (fun x w1 _ _ => portRight_any x w1)).mono ?_; rintro e w1 ⟨rfl, hb1⟩; obtain ⟨hc1, hf1⟩ := bcell hb1; have hz1 := hb_lt hb1))
    go_ret
    exact ⟨by simp [rulOk, hq1], bel⟩
  cases hq2 : few x.ports 2 prtOk
  · go_wp2_with (first
      | (go_at_call 150; refine (fewPeer peerOk _ _ _ _ _ (rdPeers.to HP.out bel) (fun x ea ec w1 _ _ hr => peerRight_any x ea ec w1 hr)).mono ?_; rintro e w1 ⟨rfl, hb1⟩; obtain ⟨hc1, hf1⟩ := bcell hb1; have hz1 := hb_lt hb1)
      | (go_at_call 152; refine (fewPort prtOk _ _ _ _ _ (rdPorts.to HQ.out bel) (fun x w1 _ _ => portRight_any x w1)).mono ?_; rintro e w1 ⟨rfl, hb1⟩; obtain ⟨hc1, hf1⟩ := bcell hb1; have hz1 := hb_lt hb1))
    go_ret
    exact ⟨by simp [rulOk, hq1, hq2], bel⟩
  go_wp2_with (first
    | (go_at_call 150; refine (fewPeer peerOk _ _ _ _ _ (rdPeers.to HP.out bel) (fun x ea ec w1 _ _ hr => peerRight_any x ea ec w1 hr)).mono ?_; rintro e w1 ⟨rfl, hb1⟩; obtain ⟨hc1, hf1⟩ := bcell hb1; have hz1 := hb_lt hb1)
    | (go_at_call 152; refine (fewPort prtOk _ _ _ _ _ (rdPorts.to HQ.out bel) (fun x w1 _ _ => portRight_any x w1)).mono ?_; rintro e w1 ⟨rfl, hb1⟩; obtain ⟨hc1, hf1⟩ := bcell hb1; have hz1 := hb_lt hb1))
  go_ret
  exact ⟨by simp [rulOk, hq1, hq2], bel⟩
end Go.Proofs.YtmkjlhplgcifiaaGreat
