/-
  The blocks of a peer; rows made of blocks and ports.
  The little cluster.
-/
import Derived.Test.YtmkjlhplgcifiaaGreatJ19
import Derived.Test.YtmkjlhplgcifiaaGreatJ10
import Derived.Test.YtmkjlhplgcifiaaGreatJ21
import Derived.Test.YtmkjlhplgcifiaaGreatJ05
import Derived.Test.YtmkjlhplgcifiaaGreatJ09
namespace Go.Proofs.YtmkjlhplgcifiaaGreat
open Go.ChangeShapes Go.WideShapes Go.ChangeAt Go.RowKit
attribute [local simp] World.cell?_grow
attribute [local go_sem] World.cell?_grow
attribute [local simp] World.cell?_alloc_there
attribute [local go_sem] World.cell?_alloc_there
attribute [local go_sem] eqg_blk std_blk eqg_pod std_pod eqg_sel std_sel eqg_prt std_prt
attribute [local go_sem ↓] eql_blk eql_sel neq_sel eql_prt eql_pod
attribute [local go_sem ↓] met_in1 met_in2 met_re1 met_re2
attribute [local go_sem ↓] met_has1 met_has2
set_option linter.unusedVariables false
set_option linter.unusedSimpArgs false
theorem met_bl1 (c0 c1 c2 c3 c4 c5 c6 : Value) (w : World) : (method 379 227 (.agg #[c0, c1, c2, c3, c4, c5, c6]) "palisade/peer.blocks").run Tryz.prog w = .ok (222, .agg #[c0, c1, c2, c3, c4, c5, c6]) w := by kernel_rfl
theorem met_bl2 (c0 c1 c2 c3 c4 c5 c6 : Value) (w : World) : (method 379 228 (.agg #[c0, c1, c2, c3, c4, c5, c6]) "palisade/peer.blocks").run Tryz.prog w = .ok (230, .agg #[c0, c1, c2, c3, c4, c5, c6]) w := by kernel_rfl
attribute [local go_sem ↓] met_bl1 met_bl2
theorem allB_any (w : World) : Calls Tryz.prog 102 #[] w fun e w' => e = .returned (.agg #[.int .i64 0, .int .i64 0]) ∧ Below w.heap.size w w' := by
  go_enter Tryz.func102, Tryz.ntmps102
  go_wp2
  exact bodyPost_ret (v := .agg #[.int .i64 0, .int .i64 0]) (by simp [results, Tryz.results102, go_sem]) rfl ⟨rfl, (by repeat (first | exact Below.refl _ _ | assumption | apply Ext.alloc | apply Ext.drewN | apply Ext.drew | refine Ext.trans ?_ (by assumption)))⟩
theorem everyPort_any (w : World) : Calls Tryz.prog 103 #[] w fun e w' => e = .returned (.agg #[.int .i64 0, .int .i64 0, .int .i64 65535]) ∧ Below w.heap.size w w' := by
  go_enter Tryz.func103, Tryz.ntmps103
  go_wp2
  exact bodyPost_ret (v := .agg #[.int .i64 0, .int .i64 0, .int .i64 65535]) (by simp [results, Tryz.results103, go_sem]) rfl ⟨rfl, (by repeat (first | exact Below.refl _ _ | assumption | apply Ext.alloc | apply Ext.drewN | apply Ext.drew | refine Ext.trans ?_ (by assumption)))⟩
theorem one_any (ip : Int) (w : World) (h0 : 0 ≤ ip) (h1 : ip ≤ 4294967295) : Calls Tryz.prog 133 #[.int .i64 ip] w fun e w' => e = .returned (.agg #[.int .i64 ip, .int .i64 32]) ∧ Below w.heap.size w w' := by
  have HF := hid (show ip / pw 32 * pw 32 = ip by rw [show pw 32 = 1 from rfl]; omega)
  go_enter Tryz.func133, Tryz.ntmps133
  go_wp2_with (go_at_call 136; refine (around_any ip 32 _ (by omega) (by omega) h0 h1).mono ?_; rw [HF.out]; rintro e w1 ⟨rfl, hb1⟩; obtain ⟨hc1, hf1⟩ := bcell hb1; have hz1 := hb_lt hb1; have z0 : w1.cell? ⟨w.heap.size, 0, none⟩ = some (.int .i64 0) := cell_to (by simp [go_sem]) hb1; have z1 : w1.cell? ⟨w.heap.size, 1, none⟩ = some (.int .i64 0) := cell_to (by simp [go_sem]) hb1)
  have hB : Below w.heap.size w w1 := (by repeat (first | exact Below.refl _ _ | assumption | apply Ext.alloc | apply Ext.drewN | apply Ext.drew | refine Ext.trans ?_ (by assumption)))
  clear hc1
  exact bodyPost_ret (v := .agg #[.int .i64 ip, .int .i64 32]) (by simp [results, Tryz.results133, go_sem, hz1, z0, z1]) rfl ⟨rfl, (hB.setCell (Nat.le_refl _) _).setCell (Nat.le_refl _) _⟩
/-- the row that is made -/
def mkRow (way : Int) (near far : DBlk) (p : DPort) (allow : Bool) : DRow := if way = 1 then ⟨near.base, near.bits, far.base, far.bits, p.proto, p.lo, p.hi, allow⟩ else ⟨far.base, far.bits, near.base, near.bits, p.proto, p.lo, p.hi, allow⟩
theorem of_in (near far : DBlk) (p : DPort) (allow : Bool) (w : World) :
    Calls Tryz.prog 101 #[.int .i64 2, .agg #[.int .i64 near.base, .int .i64 near.bits], .agg #[.int .i64 far.base, .int .i64 far.bits], .agg #[.int .i64 p.proto, .int .i64 p.lo, .int .i64 p.hi], .bool allow] w
      fun e w' => e = .returned (.agg #[.int .i64 (mkRow 2 near far p allow).sb, .int .i64 (mkRow 2 near far p allow).sn, .int .i64 (mkRow 2 near far p allow).db, .int .i64 (mkRow 2 near far p allow).dn, .int .i64 (mkRow 2 near far p allow).proto, .int .i64 (mkRow 2 near far p allow).lo, .int .i64 (mkRow 2 near far p allow).hi, .bool (mkRow 2 near far p allow).allow]) ∧ Below w.heap.size w w' := by
  have HF := hid (show mkRow 2 near far p allow = ⟨far.base, far.bits, near.base, near.bits, p.proto, p.lo, p.hi, allow⟩ from rfl)
  go_enter Tryz.func101, Tryz.ntmps101
  go_wp2
  rw [HF.out]
  exact bodyPost_ret (v := .agg #[.int .i64 far.base, .int .i64 far.bits, .int .i64 near.base, .int .i64 near.bits, .int .i64 p.proto, .int .i64 p.lo, .int .i64 p.hi, .bool allow]) (by simp [results, Tryz.results101, go_sem]) rfl ⟨rfl, (by repeat (first | exact Below.refl _ _ | assumption | apply Ext.alloc | apply Ext.drewN | apply Ext.drew | refine Ext.trans ?_ (by assumption)))⟩
theorem of_out (near far : DBlk) (p : DPort) (allow : Bool) (w : World) :
    Calls Tryz.prog 101 #[.int .i64 1, .agg #[.int .i64 near.base, .int .i64 near.bits], .agg #[.int .i64 far.base, .int .i64 far.bits], .agg #[.int .i64 p.proto, .int .i64 p.lo, .int .i64 p.hi], .bool allow] w
      fun e w' => e = .returned (.agg #[.int .i64 (mkRow 1 near far p allow).sb, .int .i64 (mkRow 1 near far p allow).sn, .int .i64 (mkRow 1 near far p allow).db, .int .i64 (mkRow 1 near far p allow).dn, .int .i64 (mkRow 1 near far p allow).proto, .int .i64 (mkRow 1 near far p allow).lo, .int .i64 (mkRow 1 near far p allow).hi, .bool (mkRow 1 near far p allow).allow]) ∧ Below w.heap.size w w' := by
  have HF := hid (show mkRow 1 near far p allow = ⟨near.base, near.bits, far.base, far.bits, p.proto, p.lo, p.hi, allow⟩ from rfl)
  rw [HF.out]
  go_enter Tryz.func101, Tryz.ntmps101
  go_wp2
  go_region
  all_goals (
    go_wp2
    exact bodyPost_ret (v := .agg #[.int .i64 near.base, .int .i64 near.bits, .int .i64 far.base, .int .i64 far.bits, .int .i64 p.proto, .int .i64 p.lo, .int .i64 p.hi, .bool allow]) (by simp [results, Tryz.results101, go_sem]) rfl ⟨rfl, (by repeat (first | exact Below.refl _ _ | assumption | apply Ext.alloc | apply Ext.drewN | apply Ext.drew | refine Ext.trans ?_ (by assumption)))⟩)
/-- the addresses of a peer, as blocks -/
def pBlocks (pods : List DPod) (space : Int) (x : DPeer) : List DBlk := if x.kind = 1 then (chosen pods space x).map (fun p => ⟨p.ip, 32⟩) else wout 33 ⟨x.base, x.bits⟩ x.exc
theorem oneOf_any (y : DPod) (w : World) (h0 : 0 ≤ y.ip) (h1 : y.ip ≤ 4294967295) : Calls Tryz.prog 227 #[.agg #[.int .i64 y.host, .int .i64 y.ip, .int .i64 y.space, .int .i64 y.labels]] w fun e w' => e = .returned (.agg #[.int .i64 y.ip, .int .i64 32]) ∧ Below w.heap.size w w' := by
  go_enter Tryz.func227, Tryz.ntmps227
  go_wp2_with (go_at_call 133; refine (one_any _ _ h0 h1).mono ?_; rintro e w1 ⟨rfl, hb1⟩; obtain ⟨hc1, hf1⟩ := bcell hb1; have hz1 := hb_lt hb1; have z0 : w1.cell? ⟨w.heap.size + 1, 0, none⟩ = some (.int .i64 0) := cell_to (by simp [go_sem]) hb1; have z1 : w1.cell? ⟨w.heap.size + 1, 1, none⟩ = some (.int .i64 0) := cell_to (by simp [go_sem]) hb1)
  have hB : Below w.heap.size w w1 := (by repeat (first | exact Below.refl _ _ | assumption | apply Ext.alloc | apply Ext.drewN | apply Ext.drew | refine Ext.trans ?_ (by assumption)))
  clear hc1
  exact bodyPost_ret (v := .agg #[.int .i64 y.ip, .int .i64 32]) (by simp [results, Tryz.results227, go_sem, hz1, z0, z1]) rfl ⟨rfl, (hB.setCell (p := ⟨w.heap.size + 1, 0, none⟩) (by show w.heap.size ≤ w.heap.size + 1; omega) _).setCell (p := ⟨w.heap.size + 1, 1, none⟩) (by show w.heap.size ≤ w.heap.size + 1; omega) _⟩
set_option maxRecDepth 100000 in
theorem mapBlk_any (l : List DPod) (a : Option Addr) (cap : Nat) (w : World) (hl : rdPods w.heap.size w a l) (hok : ∀ p ∈ l, podOk p = true) (hcl : l.length ≤ 8) :
    Calls Tryz.prog 225 #[.slice a l.length cap, .func (.func 227) #[] #[]] w
      fun e w' => (∃ a c, e = .returned (.slice a (l.map (fun p => (⟨p.ip, 32⟩ : DBlk))).length c) ∧ rdBlks w'.heap.size w' a (l.map (fun p => (⟨p.ip, 32⟩ : DBlk)))) ∧ Below w.heap.size w w' := by
  have HR1 := hid hl.2
  have HOK := hid hok
  clear hl hok
  obtain ⟨i0, hi, iz0, iz1, iz2⟩ := info_parts info_blk
  go_enter Tryz.func225, Tryz.ntmps225
  go_wp2
  go_loopw [5, 10] (fun kv i wr => ∃ k : Nat, k ≤ l.length ∧ i = .int .i64 k ∧ wr.ownsRow w.heap.size 47 2 kv (l.take k).length (((l.take k).map (fun p => (⟨p.ip, 32⟩ : DBlk))).flatMap encBlk) ∧ Below w.heap.size w wr) (fun _ i _ => l.length - (intOf i).toNat)
  case atStart => exact ⟨0, Nat.zero_le _, rfl, World.ownsRow_nil _ _ _ _, Below.refl _ _⟩
  case round =>
    obtain ⟨k, hk, rfl, hown, hbw⟩ := hrel
    have HO2 := hid hown
    have HBW := hid hbw
    clear hown
    have hkl : (l.take k).length = k := by rw [List.length_take]; omega
    by_cases hlt : k < l.length
    · obtain ⟨hc, hf⟩ := bcell hbw
      obtain ⟨y, hyk⟩ : ∃ y, l[k]? = some y := ⟨l[k], by simp [hlt]⟩
      have HX := hid hyk
      have hy := podOk_true.1 (HOK.out y (List.mem_of_getElem? hyk))
      clear hyk
      obtain ⟨b, off, rfl, hb, c0, c1, c2, c3⟩ := HR1.out k y HX.out
      go_wp2_with (first
        | (go_at_call 227; refine (oneOf_any y _ hy.2.1.1 hy.2.1.2).mono ?_; rintro e w2 ⟨rfl, hb2⟩; obtain ⟨hc2, hf2⟩ := bcell hb2; have hz2 := hb_lt hb2; have HO3 := hid (own_to (HO2.out.alloc (.cells #[.int .i64 y.host, .int .i64 y.ip, .int .i64 y.space, .int .i64 y.labels] 54)) hb2); have hW2 : Below w.heap.size w w2 := (HBW.out.alloc HBW.out.size _).trans (hb2.mono (by have := HBW.out.size; simp; omega)))
        | (at_builtin; refine wpList_append_own _ rfl _ _ 67 rfl w.heap.size 47 i0 _ 2 16 Tryz.underlying67 hi iz0 iz1 iz2 rfl (by decide) _ _ _ rfl (HO3.out.alloc _) ⟨w2.heap.size, 0, none⟩ 1 1 [.int .i64 y.ip, .int .i64 32] rfl rfl (cell_new_list _ [.int .i64 y.ip, .int .i64 32] _) (fun u hu => by simp at hu; rcases hu with rfl | rfl <;> rfl) (by unfold maxLen; omega) (by omega) (by have := hW2.size; simp; omega) ?_; intro v' w3 hown' hg3 hn3))
      refine ⟨⟨k + 1, by omega, by go_num, ?_, ?_⟩, by simp [intOf]; omega⟩
      · rw [List.take_add_one, HX.out]; simpa [encBlk] using hown'
      · exact own_below (hW2.alloc hW2.size _) (by have := hW2.size; simp; omega) (HO3.out.alloc _) hg3
    · go_wp2
      have he : l.take k = l := List.take_of_length_le (by omega)
      have ho := HO2.out
      rw [he] at ho
      rw [show l.length = (l.map (fun p => (⟨p.ip, 32⟩ : DBlk))).length by simp] at ho
      obtain ⟨a2, c2, rfl, _, hr⟩ := own_blks ho (by simp; omega)
      go_ret
      exact ⟨⟨a2, c2, rfl, hr⟩, hbw⟩
set_option maxRecDepth 100000 in
theorem podBlocks_any (x : DPeer) (ea : Option Addr) (en ec : Nat) (space : Int) (sa : Option Addr) (pods : List DPod) (sc : Nat) (w : World) (hp : rdPods w.heap.size w sa pods) (ho : podsOk pods) (hpl : pods.length ≤ 8)
    (hs : selOk x.need x.ban = true) (hsp0 : 0 ≤ x.spaces) (hsp1 : x.spaces ≤ 15) (h0 : 0 ≤ space) (h1 : space ≤ 3) :
    Calls Tryz.prog 222 #[.agg #[.int .i64 x.kind, .int .i64 x.need, .int .i64 x.ban, .int .i64 x.spaces, .int .i64 x.base, .int .i64 x.bits, .slice ea en ec], .agg #[.int .i64 space, .slice sa pods.length sc]] w
      fun e w' => (∃ a c, e = .returned (.slice a ((chosen pods space x).map (fun p => (⟨p.ip, 32⟩ : DBlk))).length c) ∧ rdBlks w'.heap.size w' a ((chosen pods space x).map (fun p => (⟨p.ip, 32⟩ : DBlk)))) ∧ Below w.heap.size w w' := by
  have HR := hid hp
  have HO := hid ho
  have HS := hid hs
  have hcl : (chosen pods space x).length ≤ 8 := Nat.le_trans (List.length_filter_le _ _) hpl
  have hok : ∀ p ∈ chosen pods space x, podOk p = true := fun p hp => ho.1 p (List.mem_filter.1 hp).1
  obtain ⟨l, hl⟩ : ∃ l, l = chosen pods space x := ⟨_, rfl⟩
  rw [← hl] at hcl hok ⊢
  have HOK := hid hok
  have HL := hid hl
  clear hp ho hs hok hl
  go_enter Tryz.func222, Tryz.ntmps222
  go_wp2_with (first
    | (go_at_call 226; refine (chosen_any x _ _ _ _ _ _ _ _ (rdPods.to HR.out (by repeat (first | exact Below.refl _ _ | assumption | apply Ext.alloc | apply Ext.drewN | apply Ext.drew | refine Ext.trans ?_ (by assumption)))) HO.out HS.out hsp0 hsp1 h0 h1).mono ?_; rw [← HL.out]; rintro e w1 ⟨⟨a', c', rfl, hr1⟩, hb1⟩; have HR1 := hid hr1; clear hr1)
    | (go_at_call 225; refine (mapBlk_any l _ _ _ HR1.out HOK.out hcl).mono ?_; rintro e w2 ⟨⟨a2, c2, rfl, hr2⟩, hb2⟩; have HR2 := hid hr2; clear hr2))
  go_ret
  exact ⟨⟨a2, c2, by rw [List.length_map]; rfl, HR2.out⟩, (by repeat (first | exact Below.refl _ _ | assumption | apply Ext.alloc | apply Ext.drewN | apply Ext.drew | refine Ext.trans ?_ (by assumption)))⟩
theorem blkBlocks_any (x : DPeer) (ea : Option Addr) (ec : Nat) (space : Int) (sa : Option Addr) (sn sc : Nat) (w : World) (hr : rdBlks w.heap.size w ea x.exc) (hb : blkOk ⟨x.base, x.bits⟩ = true) (he : x.exc.all blkOk = true) (hl : x.exc.length ≤ 2) :
    Calls Tryz.prog 230 #[.agg #[.int .i64 x.kind, .int .i64 x.need, .int .i64 x.ban, .int .i64 x.spaces, .int .i64 x.base, .int .i64 x.bits, .slice ea x.exc.length ec], .agg #[.int .i64 space, .slice sa sn sc]] w
      fun e w' => (∃ a c, e = .returned (.slice a (wout 33 ⟨x.base, x.bits⟩ x.exc).length c) ∧ rdBlks w'.heap.size w' a (wout 33 ⟨x.base, x.bits⟩ x.exc)) ∧ Below w.heap.size w w' := by
  have HR := hid hr
  have HB := hid hb
  have HE := hid he
  have hb0 : 33 - x.bits ≤ (33 : Nat) := by have := (blkOk_true.1 hb).1; simp at this; omega
  have HW := hid (wout_le 33 hb he hl)
  clear hr hb he
  go_enter Tryz.func230, Tryz.ntmps230
  go_wp2_with (go_at_call 233; refine (without_any 33 _ _ _ _ _ _ HB.out HE.out hl hb0 (rdBlks.to HR.out (by repeat (first | exact Below.refl _ _ | assumption | apply Ext.alloc | apply Ext.drewN | apply Ext.drew | refine Ext.trans ?_ (by assumption))))).mono ?_; rintro e w1 ⟨⟨v, rfl, ho⟩, hb1⟩; obtain ⟨a1, c1, rfl, _, hr1⟩ := own_blks ho (by have := HW.out; omega); have HR1 := hid hr1; clear ho hr1)
  go_ret
  exact ⟨⟨a1, c1, rfl, HR1.out⟩, (by repeat (first | exact Below.refl _ _ | assumption | apply Ext.alloc | apply Ext.drewN | apply Ext.drew | refine Ext.trans ?_ (by assumption)))⟩
set_option maxRecDepth 100000 in
theorem peerBlocks_any (x : DPeer) (ea : Option Addr) (ec : Nat) (space : Int) (sa : Option Addr) (pods : List DPod) (sc : Nat) (w : World) (hr : rdBlks w.heap.size w ea x.exc) (hp : rdPods w.heap.size w sa pods) (ho : podsOk pods) (hpl : pods.length ≤ 8)
    (hx : peerOk x = true) (h0 : 0 ≤ space) (h1 : space ≤ 3) :
    Calls Tryz.prog 176 #[.agg #[.int .i64 x.kind, .int .i64 x.need, .int .i64 x.ban, .int .i64 x.spaces, .int .i64 x.base, .int .i64 x.bits, .slice ea x.exc.length ec], .agg #[.int .i64 space, .slice sa pods.length sc]] w
      fun e w' => (∃ a c, e = .returned (.slice a (pBlocks pods space x).length c) ∧ rdBlks w'.heap.size w' a (pBlocks pods space x)) ∧ Below w.heap.size w w' := by
  have HR := hid hr
  have HP := hid hp
  have HO := hid ho
  by_cases hk : x.kind = 1
  · obtain ⟨hs, hs0, hs1⟩ := peerOk_pods' hx hk
    have HS := hid hs
    have HF := hid (show pBlocks pods space x = (chosen pods space x).map (fun p => (⟨p.ip, 32⟩ : DBlk)) by rw [pBlocks, if_pos hk])
    have HK := hid hk
    rw [HF.out]
    clear hr hp ho hx hk hs
    go_enter Tryz.func176, Tryz.ntmps176
    go_wp2_with (first
      | (go_at_call 172; refine (kindOf_pods _ _ _ _ HK.out).mono ?_; rintro e w1 ⟨rfl, hb1⟩; obtain ⟨hc1, hf1⟩ := bcell hb1; have hz1 := hb_lt hb1)
      | (go_at_call 222; refine (podBlocks_any x _ _ _ _ _ _ _ _ (rdPods.to HP.out (by repeat (first | exact Below.refl _ _ | assumption | apply Ext.alloc | apply Ext.drewN | apply Ext.drew | refine Ext.trans ?_ (by assumption)))) HO.out hpl HS.out hs0 hs1 h0 h1).mono ?_; rintro e w2 ⟨⟨a2, c2, rfl, hr2⟩, hb2⟩; have HR2 := hid hr2; clear hr2))
    go_ret
    exact ⟨⟨a2, c2, by rw [List.length_map]; rfl, HR2.out⟩, (by repeat (first | exact Below.refl _ _ | assumption | apply Ext.alloc | apply Ext.drewN | apply Ext.drew | refine Ext.trans ?_ (by assumption)))⟩
  · obtain ⟨hk2, hb, he⟩ := peerOk_blocks' hx hk
    have hel : x.exc.length ≤ 2 := by
      rw [peerOk, if_neg hk] at hx
      simp only [Bool.and_eq_true, few, decide_eq_true_eq] at hx
      exact Int.ofNat_le.1 hx.2.1
    have HS := hid hb
    have HE := hid he
    have HF := hid (show pBlocks pods space x = wout 33 ⟨x.base, x.bits⟩ x.exc by rw [pBlocks, if_neg hk])
    have HK := hid hk2
    rw [HF.out]
    clear hr hp ho hx hk hk2 hb he
    go_enter Tryz.func176, Tryz.ntmps176
    go_wp2_with (first
      | (go_at_call 172; refine (kindOf_blocks _ _ _ _ HK.out).mono ?_; rintro e w1 ⟨rfl, hb1⟩; obtain ⟨hc1, hf1⟩ := bcell hb1; have hz1 := hb_lt hb1)
      | (go_at_call 230; refine (blkBlocks_any x _ _ _ _ _ _ _ (rdBlks.to HR.out (by repeat (first | exact Below.refl _ _ | assumption | apply Ext.alloc | apply Ext.drewN | apply Ext.drew | refine Ext.trans ?_ (by assumption)))) HS.out HE.out hel).mono ?_; rintro e w2 ⟨⟨a2, c2, rfl, hr2⟩, hb2⟩; have HR2 := hid hr2; clear hr2))
    go_ret
    exact ⟨⟨a2, c2, rfl, HR2.out⟩, (by repeat (first | exact Below.refl _ _ | assumption | apply Ext.alloc | apply Ext.drewN | apply Ext.drew | refine Ext.trans ?_ (by assumption)))⟩
end Go.Proofs.YtmkjlhplgcifiaaGreat
namespace Go.Proofs.YtmkjlhplgcifiaaGreat
open Go.ChangeShapes Go.WideShapes Go.ChangeAt Go.RowKit
attribute [local simp] World.cell?_grow
attribute [local go_sem] World.cell?_grow
attribute [local simp] World.cell?_alloc_there
attribute [local go_sem] World.cell?_alloc_there
attribute [local go_sem] eqg_blk std_blk eqg_pod std_pod eqg_sel std_sel eqg_prt std_prt
attribute [local go_sem ↓] eql_blk eql_sel neq_sel eql_prt eql_pod
attribute [local go_sem ↓] met_in1 met_in2 met_re1 met_re2
set_option linter.unusedVariables false
set_option linter.unusedSimpArgs false
theorem rd_nil {α : Type} (B : Nat) (w : World) (sz bytes : Nat) (E : Nat → World → Nat → Nat → α → Prop) (a : Option Addr) : RdSl B w sz bytes E a ([] : List α) := ⟨by simp, fun i x hx => by simp at hx⟩
theorem rd_one {α : Type} {B : Nat} {w : World} {sz bytes : Nat} {E : Nat → World → Nat → Nat → α → Prop} {b off : Nat} {x : α} (hy : bytes ≤ 140737488351232) (hb : b < B) (h : E B w b off x) : RdSl B w sz bytes E (some ⟨b, off, none⟩) [x] := by
  refine ⟨by simpa using hy, fun i y hy' => ?_⟩
  cases i with
  | zero =>
    cases hy'
    exact ⟨b, off, rfl, hb, by rw [Nat.zero_mul, Nat.add_zero]; exact h⟩
  | succ i => simp at hy'
end Go.Proofs.YtmkjlhplgcifiaaGreat
