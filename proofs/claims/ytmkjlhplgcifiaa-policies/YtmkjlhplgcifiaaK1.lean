/-
  list.Keep at pods and at policies: a list of its own with what holds.
-/
import Derived.Test.YtmkjlhplgcifiaaL6
import Derived.Test.YtmkjlhplgcifiaaOwn
namespace Go.Proofs.Ytmkjlhplgcifiaa
open Go.ChangeShapes Go.WideShapes Go.ChangeAt Go.RowKit
attribute [local simp] World.cell?_grow
attribute [local go_sem] World.cell?_grow
attribute [local go_sem] eqg_blk std_blk eqg_pod std_pod eqg_sel std_sel eqg_prt std_prt
attribute [local go_sem ↓] eql_blk eql_sel neq_sel eql_prt eql_pod
attribute [local go_sem ↓] met_in1 met_in2 met_re1 met_re2
set_option linter.unusedVariables false
set_option linter.unusedSimpArgs false

theorem info_pod : (Try.prog.info? 32).map (fun i => (i.zero, i.size, i.bytes)) = some (some (.agg #[.int .i64 0, .int .i64 0, .int .i64 0, .int .i64 0]), 4, 32) := by kernel_rfl
theorem info_pol : (Try.prog.info? 37).map (fun i => (i.zero, i.size, i.bytes)) = some (some (.agg #[.int .i64 0, .int .i64 0, .int .i64 0, .int .i64 0, .slice none 0 0, .slice none 0 0]), 6, 80) := by kernel_rfl

set_option maxRecDepth 100000 in
theorem keepPod (f : DPod → Bool) (k0 k1 : Value) (a : Option Addr) (cap : Nat) (l : List DPod) (w : World) (hl : rdPods w.heap.size w a l)
    (hK : ∀ (x : DPod) (w1 : World), x ∈ l → Below w.heap.size w w1 → Calls Try.prog 112 #[.agg #[.int .i64 x.host, .int .i64 x.ip, .int .i64 x.space, .int .i64 x.labels], k0, k1] w1 fun e w2 => e = .returned (.bool (f x)) ∧ Below w1.heap.size w1 w2) :
    Calls Try.prog 111 #[.slice a l.length cap, .func (.func 112) #[] #[k0, k1]] w fun e w' => (∃ a' c', e = .returned (.slice a' (l.filter f).length c') ∧ rdPods w'.heap.size w' a' (l.filter f)) ∧ Below w.heap.size w w' := by
  have HK := hid hK
  obtain ⟨hlen, hl⟩ := hl
  have HL := hid hl
  clear hl hK
  obtain ⟨i0, hi, iz0, iz1, iz2⟩ := info_parts info_pod
  go_enter Try.func111, Try.ntmps111
  go_wp2
  go_loopw [5, 10] (fun kv i wr => ∃ k : Nat, k ≤ l.length ∧ i = .int .i64 k ∧ wr.ownsRow w.heap.size 32 4 kv ((l.take k).filter f).length (((l.take k).filter f).flatMap encPod) ∧ Below w.heap.size w wr) (fun _ i _ => l.length - (intOf i).toNat)
  case atStart => exact ⟨0, Nat.zero_le _, rfl, World.ownsRow_nil _ _ _ _, Below.refl _ _⟩
  case round =>
    obtain ⟨k, hk, rfl, hown, hbw⟩ := hrel
    have HO := hid hown
    clear hown
    have hfl := filter_le l f k
    by_cases hlt : k < l.length
    · obtain ⟨hc, hf⟩ := bcell hbw
      obtain ⟨x, hxk⟩ : ∃ x, l[k]? = some x := ⟨l[k], by simp [hlt]⟩
      have HX := hid hxk
      clear hxk
      obtain ⟨b, off, rfl, hb, c0, c1, c2, c3⟩ := HL.out k x HX.out
      cases hx : f x
      · go_wp2_with (go_at_call 112; refine (HK.out x _ (List.mem_of_getElem? HX.out) (by repeat (first | exact Below.refl _ _ | assumption | apply Ext.alloc | apply Ext.drewN | apply Ext.drew | refine Ext.trans ?_ (by assumption)))).mono ?_; rintro e w1 ⟨rfl, hb1⟩; obtain ⟨hc1, hf1⟩ := bcell hb1; have hz1 := hb_lt hb1)
        exact ⟨⟨k + 1, by omega, by go_num, by rw [take_filter' HX.out hx]; exact own_to (HO.out.alloc _) hb1, (by repeat (first | exact Below.refl _ _ | assumption | apply Ext.alloc | apply Ext.drewN | apply Ext.drew | refine Ext.trans ?_ (by assumption)))⟩, by simp [intOf]; omega⟩
      · go_wp2_with (first
          | (go_at_call 112; refine (HK.out x _ (List.mem_of_getElem? HX.out) (by repeat (first | exact Below.refl _ _ | assumption | apply Ext.alloc | apply Ext.drewN | apply Ext.drew | refine Ext.trans ?_ (by assumption)))).mono ?_; rintro e w1 ⟨rfl, hb1⟩; obtain ⟨hc1, hf1⟩ := bcell hb1; have hz1 := hb_lt hb1; have HO1 := hid (own_to (HO.out.alloc (.cells #[.int .i64 x.host, .int .i64 x.ip, .int .i64 x.space, .int .i64 x.labels] 32)) hb1); have hW1 : Below w.heap.size w w1 := (by repeat (first | exact Below.refl _ _ | assumption | apply Ext.alloc | apply Ext.drewN | apply Ext.drew | refine Ext.trans ?_ (by assumption))))
          | (at_builtin; go_loud (refine wpList_append_own _ rfl _ _ 23 rfl w.heap.size 32 i0 _ 4 32 Try.underlying23 hi iz0 iz1 iz2 rfl (by decide) _ _ _ rfl (HO1.out.alloc _) ⟨w1.heap.size, 0, none⟩ 1 1 [.int .i64 x.host, .int .i64 x.ip, .int .i64 x.space, .int .i64 x.labels] rfl rfl (cell_new_list _ [.int .i64 x.host, .int .i64 x.ip, .int .i64 x.space, .int .i64 x.labels] _) (fun u hu => by simp at hu; rcases hu with rfl | rfl | rfl | rfl <;> rfl) (by unfold maxLen; omega) (by omega) (by have := hW1.size; simp; omega) ?_); intro v' w3 hown' hg3 hn3))
        exact ⟨⟨k + 1, by omega, by go_num, by rw [take_filter HX.out hx]; simpa [encPod] using hown', own_below (hW1.alloc hW1.size _) (by have := hW1.size; simp; omega) (HO1.out.alloc _) hg3⟩, by simp [intOf]; omega⟩
    · go_wp2
      have he : l.take k = l := List.take_of_length_le (by omega)
      have ho := HO.out
      rw [he] at ho hfl
      obtain ⟨a', c', rfl, _, hr⟩ := own_pods ho (by omega)
      go_ret
      exact ⟨⟨a', c', rfl, hr⟩, hbw⟩

set_option maxRecDepth 100000 in
theorem keepPol (f : DPol → Bool) (k0 k1 : Value) (a : Option Addr) (cap : Nat) (l : List DPol) (w : World) (hl : rdPols w.heap.size w a l)
    (hK : ∀ (x : DPol) (oa ia : Option Addr) (oc ic : Nat) (w1 : World), x ∈ l → Below w.heap.size w w1 → rdRules w1.heap.size w1 oa x.outs → rdRules w1.heap.size w1 ia x.ins →
      Calls Try.prog 61 #[.agg #[.int .i64 x.space, .int .i64 x.need, .int .i64 x.ban, .int .i64 x.ways, .slice oa x.outs.length oc, .slice ia x.ins.length ic], k0, k1] w1 fun e w2 => e = .returned (.bool (f x)) ∧ Below w1.heap.size w1 w2) :
    Calls Try.prog 60 #[.slice a l.length cap, .func (.func 61) #[] #[k0, k1]] w fun e w' => (∃ a' c', e = .returned (.slice a' (l.filter f).length c') ∧ rdPols w'.heap.size w' a' (l.filter f)) ∧ Below w.heap.size w w' := by
  have HK := hid hK
  obtain ⟨hlen, hl⟩ := hl
  have HL := hid hl
  clear hl hK
  obtain ⟨i0, hi, iz0, iz1, iz2⟩ := info_parts info_pol
  go_enter Try.func60, Try.ntmps60
  go_wp2
  go_loopw [5, 10] (fun kv i wr => ∃ (k : Nat) (rs : List RPol), k ≤ l.length ∧ i = .int .i64 k ∧ rs.map (·.d) = (l.take k).filter f ∧ (∀ r ∈ rs, r.ok w.heap.size w) ∧ wr.ownsRow w.heap.size 37 6 kv rs.length (rs.flatMap encPol) ∧ Below w.heap.size w wr) (fun _ i _ => l.length - (intOf i).toNat)
  case atStart => exact ⟨0, [], Nat.zero_le _, rfl, rfl, fun r hr => by simp at hr, World.ownsRow_nil _ _ _ _, Below.refl _ _⟩
  case round =>
    obtain ⟨k, rs, hk, rfl, hmap, hrs, hown, hbw⟩ := hrel
    have HO := hid hown
    have HM := hid hmap
    have HR := hid hrs
    have hrl : rs.length ≤ k := by have := filter_le l f k; rw [← hmap] at this; simpa using this
    clear hown hmap hrs
    by_cases hlt : k < l.length
    · obtain ⟨hc, hf⟩ := bcell hbw
      obtain ⟨x, hxk⟩ : ∃ x, l[k]? = some x := ⟨l[k], by simp [hlt]⟩
      have HX := hid hxk
      clear hxk
      obtain ⟨b, off, rfl, hb, c0, c1, c2, c3, ⟨oa, oc, c4, ho⟩, ia, ic, c5, hi2⟩ := HL.out k x HX.out
      have HA := hid ho
      have HB := hid hi2
      clear ho hi2
      cases hx : f x
      · go_wp2_with (go_at_call 61; refine (HK.out x _ _ _ _ _ (List.mem_of_getElem? HX.out) (by repeat (first | exact Below.refl _ _ | assumption | apply Ext.alloc | apply Ext.drewN | apply Ext.drew | refine Ext.trans ?_ (by assumption))) (rdRules.to HA.out (by repeat (first | exact Below.refl _ _ | assumption | apply Ext.alloc | apply Ext.drewN | apply Ext.drew | refine Ext.trans ?_ (by assumption)))) (rdRules.to HB.out (by repeat (first | exact Below.refl _ _ | assumption | apply Ext.alloc | apply Ext.drewN | apply Ext.drew | refine Ext.trans ?_ (by assumption))))).mono ?_; rintro e w1 ⟨rfl, hb1⟩; obtain ⟨hc1, hf1⟩ := bcell hb1; have hz1 := hb_lt hb1)
        exact ⟨⟨k + 1, rs, by omega, by go_num, by rw [take_filter' HX.out hx]; exact HM.out, HR.out, own_to (HO.out.alloc _) hb1, (by repeat (first | exact Below.refl _ _ | assumption | apply Ext.alloc | apply Ext.drewN | apply Ext.drew | refine Ext.trans ?_ (by assumption)))⟩, by simp [intOf]; omega⟩
      · go_wp2_with (first
          | (go_at_call 61; refine (HK.out x _ _ _ _ _ (List.mem_of_getElem? HX.out) (by repeat (first | exact Below.refl _ _ | assumption | apply Ext.alloc | apply Ext.drewN | apply Ext.drew | refine Ext.trans ?_ (by assumption))) (rdRules.to HA.out (by repeat (first | exact Below.refl _ _ | assumption | apply Ext.alloc | apply Ext.drewN | apply Ext.drew | refine Ext.trans ?_ (by assumption)))) (rdRules.to HB.out (by repeat (first | exact Below.refl _ _ | assumption | apply Ext.alloc | apply Ext.drewN | apply Ext.drew | refine Ext.trans ?_ (by assumption))))).mono ?_; rintro e w1 ⟨rfl, hb1⟩; obtain ⟨hc1, hf1⟩ := bcell hb1; have hz1 := hb_lt hb1; have HO1 := hid (own_to (HO.out.alloc (.cells #[.int .i64 x.space, .int .i64 x.need, .int .i64 x.ban, .int .i64 x.ways, .slice oa x.outs.length oc, .slice ia x.ins.length ic] 37)) hb1); have hW1 : Below w.heap.size w w1 := (by repeat (first | exact Below.refl _ _ | assumption | apply Ext.alloc | apply Ext.drewN | apply Ext.drew | refine Ext.trans ?_ (by assumption))))
          | (at_builtin; refine wpList_append_own _ rfl _ _ 24 rfl w.heap.size 37 i0 _ 6 80 Try.underlying24 hi iz0 iz1 iz2 rfl (by decide) _ _ _ rfl (HO1.out.alloc _) ⟨w1.heap.size, 0, none⟩ 1 1 [.int .i64 x.space, .int .i64 x.need, .int .i64 x.ban, .int .i64 x.ways, .slice oa x.outs.length oc, .slice ia x.ins.length ic] rfl rfl (cell_new_list _ [.int .i64 x.space, .int .i64 x.need, .int .i64 x.ban, .int .i64 x.ways, .slice oa x.outs.length oc, .slice ia x.ins.length ic] _) (fun u hu => by simp at hu; rcases hu with rfl | rfl | rfl | rfl | rfl | rfl <;> rfl) (by unfold maxLen; omega) (by omega) (by have := hW1.size; simp; omega) ?_; intro v' w3 hown' hg3 hn3))
        exact ⟨⟨k + 1, rs ++ [⟨x, .slice oa x.outs.length oc, .slice ia x.ins.length ic⟩], by omega, by go_num, by rw [take_filter HX.out hx, ← HM.out]; simp, fun r hr => by
            rcases List.mem_append.1 hr with h | h
            · exact HR.out r h
            · simp at h; subst h; exact ⟨⟨oa, oc, rfl, HA.out⟩, ia, ic, rfl, HB.out⟩, by simpa [encPol] using hown', own_below (hW1.alloc hW1.size _) (by have := hW1.size; simp; omega) (HO1.out.alloc _) hg3⟩, by simp [intOf]; omega⟩
    · go_wp2
      have he : l.take k = l := List.take_of_length_le (by omega)
      have ho := HO.out
      have hm := HM.out
      rw [he] at hm
      obtain ⟨a', c', rfl, _, hr⟩ := own_pols ho (by omega) hbw HR.out
      have hl2 : rs.length = (l.filter f).length := by rw [← hm]; simp
      rw [hm] at hr
      rw [hl2]
      go_ret
      exact ⟨⟨a', c', rfl, hr⟩, hbw⟩
end Go.Proofs.Ytmkjlhplgcifiaa
