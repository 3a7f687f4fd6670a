/-
  A cluster that was made right, read.
  palisadekeep: the law Isolated, walked, whatever the pods, the space, the peer and the packet.
  A peer and a rule that came in as values, opened.
-/
import Derived.Test.YtmkjlhplgcifiaaGreatQ26
import Derived.Test.YtmkjlhplgcifiaaGreatQ27
import Derived.Test.YtmkjlhplgcifiaaGreatQ28
import Derived.Deep.CutRange
import Derived.Deep.CutBlock
import Derived.Carry
namespace Go.Proofs.YtmkjlhplgcifiaaGreat
open Go.ChangeShapes Go.WideShapes Go.ChangeAt Go.RowKit
attribute [local simp] World.cell?_grow
attribute [local go_sem] World.cell?_grow
attribute [local simp] World.cell?_alloc_there
attribute [local go_sem] World.cell?_alloc_there
attribute [local go_sem] eqg_blk std_blk eqg_pod std_pod eqg_sel std_sel eqg_prt std_prt
attribute [local go_sem ↓] eql_blk eql_sel neq_sel eql_prt eql_pod
attribute [local go_sem ↓] met_in1 met_in2 met_re1 met_re2
attribute [local go_sem ↓] met_has1 met_has2
attribute [local go_sem ↓] met_bl1 met_bl2
attribute [local go_sem] eqg_row std_row
attribute [local go_sem ↓] neq_row
set_option linter.unusedVariables false
set_option linter.unusedSimpArgs false

theorem CluUp.get {B : Nat} {w' : World} {v v' : Value} {c : DClu} (h : CluUp B w' v v' c) :
    ∃ a n a' n', v = .slice a (mkClu c).pods.length n ∧ v' = .slice a' (mkClu c).pols.length n' ∧ (mkClu c).pods.length ≤ n ∧ rdPods w'.heap.size w' a (mkClu c).pods ∧ rdPols w'.heap.size w' a' (mkClu c).pols := by
  obtain ⟨m, ys, hm, hup, hv, huq, hys⟩ := h
  have hl := (mkPods_good c.pods).1
  have hyl : ys.length ≤ 4 := by have h := congrArg List.length hys; simp at h; omega
  obtain ⟨a, n, rfl, hn, hr⟩ := upPods_done hup (by omega)
  obtain ⟨a', n', rfl, hn', hr'⟩ := upPols_done huq (by omega)
  rw [hys] at hr' ⊢
  exact ⟨a, n, a', n', rfl, rfl, hn, rdPods.sub (Sub.show _ _) (Nat.le_refl _) hr, rdPols.sub (Sub.show _ _) (Nat.le_refl _) hr'⟩
end Go.Proofs.YtmkjlhplgcifiaaGreat
namespace Go.Proofs.YtmkjlhplgcifiaaGreat
open Go.ChangeShapes Go.WideShapes Go.ChangeAt Go.RowKit
attribute [local simp] World.cell?_grow
attribute [local go_sem] World.cell?_grow
attribute [local simp] World.cell?_alloc_there
attribute [local go_sem] World.cell?_alloc_there
attribute [local go_sem] eqg_blk std_blk eqg_pod std_pod eqg_sel std_sel eqg_prt std_prt
attribute [local go_sem ↓] eql_blk eql_sel neq_sel eql_prt eql_pod
attribute [local go_sem ↓] met_in1 met_in2 met_re1 met_re2
attribute [local go_sem ↓] met_has1 met_has2
attribute [local go_sem ↓] met_bl1 met_bl2
attribute [local go_sem] eqg_row std_row
attribute [local go_sem ↓] neq_row
set_option linter.unusedVariables false
set_option linter.unusedSimpArgs false

def isoClu (pods : List DPod) (s : Int) (P : DPeer) : DClu := ⟨mkPods pods, [⟨s, 0, 0, 2, [], [⟨[P], []⟩]⟩]⟩
theorem iso_right (pods : List DPod) {s : Int} {P : DPeer} (h0 : 0 ≤ s) (h1 : s ≤ 3) (hP : peerOk P = true) : right (isoClu pods s P) = (0, 0) := by
  refine right_good (mkPods_good _) (by simp [isoClu]) fun q hq => ?_
  simp only [isoClu, List.mem_singleton] at hq
  subst hq
  simp [polOk, selOk, btw, rulesOk, few, rulOk, hP]
  exact ⟨h0, h1⟩
theorem sels_zero (l : Int) : sels 0 0 l = true := by simp [sels, bitOk]
def isoSays (pods : List DPod) (s : Int) (P : DPeer) (x : DPkt) : Bool :=
  match podAt pods x.dst with | none => true | some p => if p.space = s then blkHas x.src ⟨P.base, P.bits⟩ && P.exc.all (fun b => !blkHas x.src b) else true
theorem iso_may (pods : List DPod) (s : Int) (P : DPeer) (hk : P.kind = 2) (x : DPkt) : (may (isoClu pods s P) 1 x x.src x.dst && may (isoClu pods s P) 2 x x.dst x.src) = isoSays (mkPods pods) s P x := by
  have m1 : may (isoClu pods s P) 1 x x.src x.dst = true := by
    unfold may
    split
    · rfl
    · simp [isoClu, applies, hasWay]
  rw [m1, Bool.true_and]
  unfold may isoSays
  show (match podAt (mkPods pods) x.dst with | none => true | some p => _) = _
  cases hp : podAt (mkPods pods) x.dst with
  | none => rfl
  | some p =>
    by_cases hs : p.space = s
    · have hs' : s = p.space := hs.symm
      simp [isoClu, applies, hasWay, letsGo, rulesOf, ruleFits, eoa, peerHas, hk, sels_zero, hs', List.any_eq_not_all_not]
    · have hs' : ¬ s = p.space := fun h => hs h.symm
      simp [isoClu, applies, hasWay, hs, hs']
theorem peer_blocks {P : DPeer} (h : peerOk P = true) (hk : P.kind = 2) : blkOk ⟨P.base, P.bits⟩ = true ∧ (∀ b ∈ P.exc, blkOk b = true) ∧ P.exc.length ≤ 2 := by
  have h1 : ¬ P.kind = 1 := by omega
  simp only [peerOk, h1, if_false, Bool.and_eq_true, few, decide_eq_true_eq, List.all_eq_true] at h
  exact ⟨h.1.1.1.1.2, h.2.2, by omega⟩
theorem all_snoc {α : Type} {l : List α} {f : α → Bool} {i : Nat} {y : α} (h : l[i]? = some y) : (l.take (i + 1)).all f = ((l.take i).all f && f y) := by
  rw [List.take_add_one, h, Option.toList_some, List.all_append]; simp

set_option maxRecDepth 100000 in
set_option maxHeartbeats 4000000 in
theorem isolated_any (pods : List DPod) (space : Int) (pe : DPeer) (k : DPkt) (pa ea : Option Addr) (pc ec : Nat) (w : World) (hp : rdPods w.heap.size w pa pods) (he : rdBlks w.heap.size w ea pe.exc) (ip : ∀ p ∈ pods, iPod p) (is : i64 space) (ie : iPeer pe) (hk : iPkt k) :
    Calls Tryz.prog 8 #[.slice pa pods.length pc, .int .i64 space, .agg #[.int .i64 pe.kind, .int .i64 pe.need, .int .i64 pe.ban, .int .i64 pe.spaces, .int .i64 pe.base, .int .i64 pe.bits, .slice ea pe.exc.length ec], .agg #[.int .i64 k.src, .int .i64 k.dst, .int .i64 k.proto, .int .i64 k.port]] w fun e w' => e = .returned (.bool true) ∧ Below w.heap.size w w' := by
  have HP := hid hp
  have HE := hid he
  have HI := hid ip
  have HIE := hid ie
  obtain ⟨k0, k1, k2, k3⟩ := hk
  clear hp he ip ie
  go_enter Tryz.func8, Tryz.ntmps8
  go_wp2_with fail
  have n0 : ((w.alloc (.cells #[.int .i64 pe.kind, .int .i64 pe.need, .int .i64 pe.ban, .int .i64 pe.spaces, .int .i64 pe.base, .int .i64 pe.bits, .slice ea pe.exc.length ec] 69)).alloc (.cells #[.int .i64 k.src, .int .i64 k.dst, .int .i64 k.proto, .int .i64 k.port] 30)).heap[w.heap.size]? = some (.cells #[.int .i64 pe.kind, .int .i64 pe.need, .int .i64 pe.ban, .int .i64 pe.spaces, .int .i64 pe.base, .int .i64 pe.bits, .slice ea pe.exc.length ec] 69 (0, 0)) := (Below.heap_alloc _ _ _ (by simp)).trans (new_heap _ _)
  have n1 : ((w.alloc (.cells #[.int .i64 pe.kind, .int .i64 pe.need, .int .i64 pe.ban, .int .i64 pe.spaces, .int .i64 pe.base, .int .i64 pe.bits, .slice ea pe.exc.length ec] 69)).alloc (.cells #[.int .i64 k.src, .int .i64 k.dst, .int .i64 k.proto, .int .i64 k.port] 30)).heap[w.heap.size + 1]? = some (.cells #[.int .i64 k.src, .int .i64 k.dst, .int .i64 k.proto, .int .i64 k.port] 30 (0, 0)) := by
    have := new_heap (w.alloc (.cells #[.int .i64 pe.kind, .int .i64 pe.need, .int .i64 pe.ban, .int .i64 pe.spaces, .int .i64 pe.base, .int .i64 pe.bits, .slice ea pe.exc.length ec] 69)) (.cells #[.int .i64 k.src, .int .i64 k.dst, .int .i64 k.proto, .int .i64 k.port] 30)
    simp only [World.size_alloc] at this
    exact this
  have hB : Below w.heap.size w ((w.alloc (.cells #[.int .i64 pe.kind, .int .i64 pe.need, .int .i64 pe.ban, .int .i64 pe.spaces, .int .i64 pe.base, .int .i64 pe.bits, .slice ea pe.exc.length ec] 69)).alloc (.cells #[.int .i64 k.src, .int .i64 k.dst, .int .i64 k.proto, .int .i64 k.port] 30)) := (by repeat (first | exact Below.refl _ _ | assumption | apply Ext.alloc | apply Ext.drewN | apply Ext.drew | refine Ext.trans ?_ (by assumption)))
  have hS : w.heap.size + 2 ≤ ((w.alloc (.cells #[.int .i64 pe.kind, .int .i64 pe.need, .int .i64 pe.ban, .int .i64 pe.spaces, .int .i64 pe.base, .int .i64 pe.bits, .slice ea pe.exc.length ec] 69)).alloc (.cells #[.int .i64 k.src, .int .i64 k.dst, .int .i64 k.proto, .int .i64 k.port] 30)).heap.size := by simp only [World.size_alloc]; omega
  generalize (w.alloc (.cells #[.int .i64 pe.kind, .int .i64 pe.need, .int .i64 pe.ban, .int .i64 pe.spaces, .int .i64 pe.base, .int .i64 pe.bits, .slice ea pe.exc.length ec] 69)).alloc (.cells #[.int .i64 k.src, .int .i64 k.dst, .int .i64 k.proto, .int .i64 k.port] 30) = W at n0 n1 hB hS ⊢
  refine (awake_any W).mono ?_
  rintro e wA ⟨rfl, hbA⟩
  have hsA := hbA.size
  have A0 := hid ((hbA.block w.heap.size (by omega)).trans n0)
  have A1 := hid ((hbA.block (w.heap.size + 1) (by omega)).trans n1)
  have HBA := hid (show Below w.heap.size w wA from hB.trans (hbA.mono (by omega)))
  have m0 := blk_cell A0.out
  have mf := blk_frozen A0.out
  clear n0 n1 hB hbA
  go_wp2_with fail
  refine (pick_any space 4 _ is (by decide) (by decide)).mono ?_
  have hs := pk_in (c := space) (n := 4) (by decide)
  generalize pk space 4 = s at *
  rintro e w2 ⟨rfl, rfl⟩
  have V0 := (set_blk A0.out 0 (.int .i64 0))
  have V1 := (Below.heap_setCell wA ⟨w.heap.size, 0, none⟩ (.int .i64 0) (w.heap.size + 1) (by show w.heap.size + 1 ≠ w.heap.size; omega)).trans A1.out
  have hV : Below w.heap.size w (wA.setCell ⟨w.heap.size, 0, none⟩ (.int .i64 0)) := HBA.out.setCell (by simp) _
  have hVs : w.heap.size + 2 ≤ (wA.setCell ⟨w.heap.size, 0, none⟩ (.int .i64 0)).heap.size := by rw [World.size_setCell]; omega
  generalize wA.setCell ⟨w.heap.size, 0, none⟩ (.int .i64 0) = V at V0 V1 hV hVs ⊢
  have V0 : V.heap[w.heap.size]? = some (.cells #[.int .i64 0, .int .i64 pe.need, .int .i64 pe.ban, .int .i64 pe.spaces, .int .i64 pe.base, .int .i64 pe.bits, .slice ea pe.exc.length ec] 69 (0, 0)) := V0
  have m0 := blk_cell V0
  have HV0 := hid V0
  have HV1 := hid V1
  have HV := hid hV
  clear V0 V1 hV mf
  go_wp2_with fail
  generalize hY : (V.alloc (.cells #[.int .i64 0, .int .i64 pe.need, .int .i64 pe.ban, .int .i64 pe.spaces, .int .i64 pe.base, .int .i64 pe.bits, .slice ea pe.exc.length ec] 69)).alloc (.cells #[.slice (some ⟨V.heap.size, 0, none⟩) 1 1, .slice none 0 0] 64) = Y
  have hsY : Y.heap.size = V.heap.size + 2 := by rw [← hY]; simp
  have hbY : Below V.heap.size V Y := by rw [← hY]; exact (by repeat (first | exact Below.refl _ _ | assumption | apply Ext.alloc | apply Ext.drewN | apply Ext.drew | refine Ext.trans ?_ (by assumption)))
  have y0 : ∀ j u, [Value.int .i64 0, .int .i64 pe.need, .int .i64 pe.ban, .int .i64 pe.spaces, .int .i64 pe.base, .int .i64 pe.bits, .slice ea pe.exc.length ec][j]? = some u → Y.cell? ⟨V.heap.size, j, none⟩ = some u := fun j u hu => by
    rw [← hY]
    refine cell_past ?_
    simpa using hu
  have y1 : Y.cell? ⟨V.heap.size + 1, 0, none⟩ = some (.slice (some ⟨V.heap.size, 0, none⟩) 1 1) := by rw [← hY]; simp [go_sem]
  have y2 : Y.cell? ⟨V.heap.size + 1, 1, none⟩ = some (.slice none 0 0) := by rw [← hY]; simp [go_sem]
  obtain ⟨pe0, hpe0⟩ : ∃ pe0 : DPeer, pe0 = ⟨0, pe.need, pe.ban, pe.spaces, pe.base, pe.bits, pe.exc⟩ := ⟨_, rfl⟩
  have hrp : rdPeers Y.heap.size Y (some ⟨V.heap.size, 0, none⟩) [pe0] := by
    rw [hpe0]
    exact rd_one (by decide) (by omega) ⟨y0 0 _ rfl, (by rw [Nat.zero_add]; exact y0 1 _ rfl), (by rw [Nat.zero_add]; exact y0 2 _ rfl), (by rw [Nat.zero_add]; exact y0 3 _ rfl), (by rw [Nat.zero_add]; exact y0 4 _ rfl), (by rw [Nat.zero_add]; exact y0 5 _ rfl), ea, ec, (by rw [Nat.zero_add]; exact y0 6 _ rfl), rdBlks.ext (HV.out.trans (hbY.mono HV.out.size)) (Nat.le_trans HV.out.size hbY.size) HE.out⟩
  have hrr : rdRules Y.heap.size Y (some ⟨V.heap.size + 1, 0, none⟩) [⟨[pe0], []⟩] := rd_one (by decide) (by omega) ⟨⟨_, _, y1, hrp⟩, none, 0, (by rw [Nat.zero_add]; exact y2), rd_nil _ _ _ _ _ _⟩
  have hir : ∀ r ∈ ([⟨[pe0], []⟩] : List DRule), iRule r := by
    intro r hr
    simp only [List.mem_singleton] at hr
    subst hr
    refine ⟨fun p hp => ?_, fun p hp => by simp at hp⟩
    simp only [List.mem_singleton] at hp
    subst hp hpe0
    exact ⟨(show i64 0 by unfold i64; decide), HIE.out.2⟩
  have hcall := mkRules_any [⟨[pe0], []⟩] (some ⟨V.heap.size + 1, 0, none⟩) 1 Y hrr hir
  rw [show mkRules [⟨[pe0], []⟩] = [⟨[mkPeer pe0], []⟩] from rfl] at hcall
  have hPk : (mkPeer pe0).kind = 2 := by rw [hpe0]; rfl
  have hPo := mkPeer_ok pe0
  generalize mkPeer pe0 = P at hcall hPk hPo
  have HPK := hid hPk
  have HPO := hid hPo
  have HCALL := hid hcall
  have HY := hid (HV.out.trans (hbY.mono HV.out.size))
  have HY1 := hid ((hbY.block (w.heap.size + 1) (by omega)).trans HV1.out)
  clear hY y0 y1 y2 hrp hrr hir hpe0 hcall hPk hPo hbY m0 is
  refine HCALL.out.mono ?_
  rintro e wB ⟨⟨la, lc, rfl, hlc, hrl⟩, hbB⟩
  have hsB := hbB.size
  have HRL := hid (rdRules.sub (Sub.show _ _) (Nat.le_refl _) hrl)
  have HB := hid (show Below w.heap.size w wB from HY.out.trans (hbB.mono HY.out.size))
  have HB1 := hid ((hbB.block (w.heap.size + 1) (by omega)).trans HY1.out)
  clear hbB hrl
  go_wp2_with fail
  have hclu := mkClu_any ⟨pods, []⟩ pa none pc 0 wB (rdPods.ext HB.out HB.out.size HP.out) (rd_nil _ _ _ _ _ _) ⟨HI.out, fun q hq => by simp at hq⟩
  refine hclu.mono ?_
  rintro e wC ⟨⟨v, v', rfl, hcu⟩, hbC⟩
  obtain ⟨a, n, a', n', rfl, rfl, hn, hrp, _⟩ := hcu.get
  have hgood := mkPods_good pods
  have hmay := fun x => iso_may pods s P HPK.out x
  have hR := iso_right pods (s := s) (P := P) hs.1 (by omega) HPO.out
  obtain ⟨C, hC⟩ : ∃ C, C = isoClu pods s P := ⟨_, rfl⟩
  have hCp : C.pods = mkPods pods := by rw [hC]; rfl
  have hCq : C.pols = [⟨s, 0, 0, 2, [], [⟨[P], []⟩]⟩] := by rw [hC]; rfl
  rw [← hC] at hR
  simp only [← hC] at hmay
  rw [show (mkClu ⟨pods, []⟩).pols.length = 0 from rfl]
  rw [show (mkClu ⟨pods, []⟩).pods = mkPods pods from rfl, ← hCp] at hn hrp ⊢
  rw [← hCp] at hgood hmay
  have HGOOD := hid hgood
  have HMAY := hid hmay
  have HR := hid (show (right C).1 = 0 by rw [hR])
  have HRP := hid hrp
  have HCQ := hid hCq
  have hsC := hbC.size
  have HC := hid (show Below w.heap.size w wC from HB.out.trans (hbC.mono HB.out.size))
  have HC1 := hid ((hbC.block (w.heap.size + 1) (by omega)).trans HB1.out)
  have HRLC := hid (rdRules.to HRL.out hbC)
  clear hclu hbC hcu hR hC hCp hgood hmay hrp hCq HRL
  have j1 := blk_cell HC1.out
  go_wp2_with fail
  generalize hZ : (wC.alloc (.cells #[.slice a C.pods.length n, .slice (some ⟨wC.heap.size + 1, 0, none⟩) 1 1] 28)).alloc (.cells #[.int .i64 s, .int .i64 0, .int .i64 0, .int .i64 2, .slice none 0 0, .slice la 1 lc] 59) = Z
  have hsZ : Z.heap.size = wC.heap.size + 2 := by rw [← hZ]; simp
  have hbZ : Below wC.heap.size wC Z := by rw [← hZ]; exact (by repeat (first | exact Below.refl _ _ | assumption | apply Ext.alloc | apply Ext.drewN | apply Ext.drew | refine Ext.trans ?_ (by assumption)))
  have z0 : Z.cell? ⟨wC.heap.size, 0, none⟩ = some (.slice a C.pods.length n) := by rw [← hZ]; simp [go_sem]
  have z1 : Z.cell? ⟨wC.heap.size, 1, none⟩ = some (.slice (some ⟨wC.heap.size + 1, 0, none⟩) 1 1) := by rw [← hZ]; simp [go_sem]
  have q0 : Z.cell? ⟨wC.heap.size + 1, 0, none⟩ = some (.int .i64 s) := by rw [← hZ]; simp [go_sem]
  have q1 : Z.cell? ⟨wC.heap.size + 1, 1, none⟩ = some (.int .i64 0) := by rw [← hZ]; simp [go_sem]
  have q2 : Z.cell? ⟨wC.heap.size + 1, 2, none⟩ = some (.int .i64 0) := by rw [← hZ]; simp [go_sem]
  have q3 : Z.cell? ⟨wC.heap.size + 1, 3, none⟩ = some (.int .i64 2) := by rw [← hZ]; simp [go_sem]
  have q4 : Z.cell? ⟨wC.heap.size + 1, 4, none⟩ = some (.slice none 0 0) := by rw [← hZ]; simp [go_sem]
  have q5 : Z.cell? ⟨wC.heap.size + 1, 5, none⟩ = some (.slice la 1 lc) := by rw [← hZ]; simp [go_sem]
  have hRQ : rdPols Z.heap.size Z (some ⟨wC.heap.size + 1, 0, none⟩) C.pols := by
    rw [HCQ.out]
    exact rd_one (by decide) (by omega) ⟨q0, (by rw [Nat.zero_add]; exact q1), (by rw [Nat.zero_add]; exact q2), (by rw [Nat.zero_add]; exact q3), ⟨none, 0, (by rw [Nat.zero_add]; exact q4), rd_nil _ _ _ _ _ _⟩, la, lc, (by rw [Nat.zero_add]; exact q5), rdRules.to HRLC.out hbZ⟩
  have HRQ := hid hRQ
  have HZ := hid hbZ
  have hips := pods_ips HGOOD.out
  clear hZ hbZ q0 q1 q2 q3 q4 q5 hRQ j1
  refine (mkPkt_any C.pods k a (some ⟨wC.heap.size + 1, 0, none⟩) n 1 1 Z (rdPods.to HRP.out HZ.out) hips k0 k1 k2 k3).mono ?_
  rintro e wD ⟨⟨x, rfl, hx⟩, hbD⟩
  have HX := hid hx
  have hsD := hbD.size
  have y0 := cell_to z0 hbD
  have y1 := cell_to z1 hbD
  have HD := hid hbD
  have hsr : 0 ≤ x.src ∧ x.src ≤ 4294967295 := by
    simp only [pktOk, Bool.and_eq_true, btw, decide_eq_true_eq] at hx
    exact hx.1.1.1
  clear hbD z0 z1 hx hips k0 k1 k2 k3
  go_wp2_with fail
  generalize hE : wD.alloc (.cells #[.int .i64 x.src, .int .i64 x.dst, .int .i64 x.proto, .int .i64 x.port] 30) = E
  have hsE : E.heap.size = wD.heap.size + 1 := by rw [← hE]; simp
  have hbE : Below wD.heap.size wD E := by rw [← hE]; exact (by repeat (first | exact Below.refl _ _ | assumption | apply Ext.alloc | apply Ext.drewN | apply Ext.drew | refine Ext.trans ?_ (by assumption)))
  have p0 : E.cell? ⟨wD.heap.size, 0, none⟩ = some (.int .i64 x.src) := by rw [← hE]; simp [go_sem]
  have p1 : E.cell? ⟨wD.heap.size, 1, none⟩ = some (.int .i64 x.dst) := by rw [← hE]; simp [go_sem]
  have p2 : E.cell? ⟨wD.heap.size, 2, none⟩ = some (.int .i64 x.proto) := by rw [← hE]; simp [go_sem]
  have p3 : E.cell? ⟨wD.heap.size, 3, none⟩ = some (.int .i64 x.port) := by rw [← hE]; simp [go_sem]
  have e0 := cell_to y0 hbE
  have e1 := cell_to y1 hbE
  have HEZ := hid (Ext.trans HD.out hbE)
  clear hE hbE y0 y1
  have hall := keepAllowed_any C x a (some ⟨wC.heap.size + 1, 0, none⟩) n 1 E (rdPods.to (rdPods.to HRP.out HZ.out) HEZ.out) (rdPols.to HRQ.out HEZ.out) hn HR.out HX.out
  rw [show C.pols.length = 1 by rw [HCQ.out]; rfl, HMAY.out x] at hall
  obtain ⟨want, hwant⟩ : ∃ want, want = isoSays C.pods s P x := ⟨_, rfl⟩
  rw [← hwant] at hall
  have HWANT := hid hwant
  have HALL := hid hall
  clear hwant hall
  refine HALL.out.mono ?_
  rintro e wF ⟨rfl, hbF⟩
  have hsF := hbF.size
  have f0 := cell_to e0 hbF
  have f1 := cell_to e1 hbF
  have g0 := cell_to p0 hbF
  have g1 := cell_to p1 hbF
  have HFZ := hid (Ext.trans HEZ.out hbF)
  clear hbF e0 e1 p0 p1 p2 p3
  go_wp2_with fail
  refine (keepAt_any C.pods x.dst a (some ⟨wC.heap.size + 1, 0, none⟩) n 1 1 wF (rdPods.to (rdPods.to HRP.out HZ.out) HFZ.out)).mono ?_
  rintro e wG ⟨rfl, hbG⟩
  have hsG := hbG.size
  have r0 := cell_to f0 hbG
  have r1 := cell_to g0 hbG
  have HGZ := hid (Ext.trans HFZ.out hbG)
  have HBG := hid (show Below w.heap.size w wG from HC.out.trans ((Ext.trans HZ.out HGZ.out).mono HC.out.size))
  clear hbG f0 f1 g0 g1
  cases hpa : podAt C.pods x.dst with
  | none =>
    have hix := podAt_ixn hpa
    have hw : want = true := by rw [HWANT.out, isoSays, hpa]
    subst hw
    rw [hix]
    clear hix hpa
    go_wp2
    go_ret
    exact ⟨rfl, HBG.out⟩
  | some p =>
    obtain ⟨j, hj, hix⟩ := podAt_ix hpa
    rw [hix]
    have hjl : j < C.pods.length := (List.getElem?_eq_some_iff.1 hj).1
    have zj : (j : Int) < (C.pods.length : Int) := by omega
    have zj0 : (0 : Int) ≤ (j : Int) := by omega
    have hrg := rdPods.to (rdPods.to HRP.out HZ.out) HGZ.out
    obtain ⟨b, off, rfl, hb, _, _, c2, _⟩ := hrg.2 j p hj
    by_cases hsp : p.space = s
    · have hq : (p.space == s) = true := by simp [hsp]
      obtain ⟨hbo, hbl, hel⟩ := peer_blocks HPO.out HPK.out
      have HBO := hid hbo
      have HBL := hid hbl
      have HW := hid (show want = (blkHas x.src ⟨P.base, P.bits⟩ && P.exc.all (fun b => !blkHas x.src b)) by rw [HWANT.out, isoSays, hpa]; simp [hsp])
      have hrl := rdRules.to (rdRules.to HRLC.out HZ.out) HGZ.out
      obtain ⟨b1, o1, rfl, hb1, ⟨pa1, pc1, s0, hrpe⟩, _⟩ := hrl.2 0 ⟨[P], []⟩ rfl
      obtain ⟨b2, o2, rfl, hb2, t0, t1, t2, t3, t4, t5, xa, xc, t6, hexc⟩ := hrpe.2 0 P rfl
      simp only [Nat.zero_mul, Nat.add_zero] at s0 t0 t1 t2 t3 t4 t5 t6
      have HEXC := hid hexc
      clear hix hpa hrg hj hbo hbl hrl hrpe hexc
      go_wp2_with fail
      generalize hX1 : wG.alloc (.cells #[.int .i64 P.kind, .int .i64 P.need, .int .i64 P.ban, .int .i64 P.spaces, .int .i64 P.base, .int .i64 P.bits, .slice xa P.exc.length xc] 69) = X1
      have hsX : X1.heap.size = wG.heap.size + 1 := by rw [← hX1]; simp
      have hbX : Below wG.heap.size wG X1 := by rw [← hX1]; exact (by repeat (first | exact Below.refl _ _ | assumption | apply Ext.alloc | apply Ext.drewN | apply Ext.drew | refine Ext.trans ?_ (by assumption)))
      have u6 : X1.cell? ⟨wG.heap.size, 6, none⟩ = some (.slice xa P.exc.length xc) := by rw [← hX1]; simp [go_sem]
      have v1 := cell_to r1 hbX
      have HX1 := hid hbX
      clear hX1 hbX r0 r1 s0 t0 t1 t2 t3 t4 t5 t6
      refine (keepHas_any ⟨P.base, P.bits⟩ x.src X1 HBO.out hsr.1 hsr.2).mono ?_
      obtain ⟨B0, hB0⟩ : ∃ B0, B0 = blkHas x.src ⟨P.base, P.bits⟩ := ⟨_, rfl⟩
      rw [← hB0]
      have HB0 := hid hB0
      clear hB0
      rintro e wH ⟨rfl, hbH⟩
      have hsH := hbH.size
      have u6' := cell_to u6 hbH
      have v1' := cell_to v1 hbH
      have HH := hid (Ext.trans HX1.out hbH)
      clear hbH u6 v1
      go_wp2_with fail
      go_loopw [17, 19] (fun wv iv wr => ∃ (i : Nat), i ≤ P.exc.length ∧ iv = .int .i64 i ∧ wv = .bool (B0 && (P.exc.take i).all (fun b => !blkHas x.src b)) ∧ Below wH.heap.size wH wr) (fun _ iv _ => P.exc.length - (intOf iv).toNat)
      case atStart => exact ⟨0, Nat.zero_le _, rfl, by simp, Below.refl _ _⟩
      case round =>
        obtain ⟨i, hi, rfl, rfl, hbr⟩ := hrel
        obtain ⟨wI, hwI⟩ : ∃ wI, wI = wr := ⟨_, rfl⟩
        subst hwI
        obtain ⟨B1, hB1⟩ : ∃ B1, B1 = (B0 && (P.exc.take i).all (fun b => !blkHas x.src b)) := ⟨_, rfl⟩
        rw [← hB1]
        have HB1 := hid hB1
        have a6 := cell_to u6' hbr
        have a1 := cell_to v1' hbr
        have HI1 := hid hbr
        clear hB1
        by_cases hlt : i < P.exc.length
        · obtain ⟨y, hy⟩ : ∃ y, P.exc[i]? = some y := ⟨P.exc[i], by simp [hlt]⟩
          have HY2 := hid hy
          have zi : (i : Int) < (P.exc.length : Int) := by omega
          obtain ⟨b3, o3, rfl, hb3, w0, w1'⟩ := HEXC.out.2 i y hy
          have l0 := cell_to (cell_to w0 HH.out) hbr
          have l1 := cell_to (cell_to w1' HH.out) hbr
          have HYO := hid (HBL.out y (List.mem_of_getElem? hy))
          have HF := hid (fun w => keepHas_any y x.src w HYO.out hsr.1 hsr.2)
          have hsnoc := all_snoc (f := fun b => !blkHas x.src b) hy
          obtain ⟨h, hh⟩ : ∃ h, h = blkHas x.src y := ⟨_, rfl⟩
          simp only [← hh] at hsnoc HF
          have HSN := hid hsnoc
          clear hy w0 w1' hsnoc hh
          go_wp2
          refine wp_region_grow (by kernel_rfl) (by kernel_rfl) ?_
          repeat (go_big_quiet_step (first
            | (go_at_call 25; exact Calls.grow_of (HF.out _))))
          refine wpQuiet_nil ?_
          intro w1 hb1
          obtain ⟨hc1, hf1⟩ := bcell hb1
          have hz1 := hb_lt hb1
          cases B1
          · go_wp2
            exact ⟨⟨i + 1, by omega, by go_num, by rw [HSN.out, ← Bool.and_assoc, ← HB1.out]; rfl, (by repeat (first | exact Below.refl _ _ | assumption | apply Ext.alloc | apply Ext.drewN | apply Ext.drew | refine Ext.trans ?_ (by assumption)))⟩, by simp [intOf]; omega⟩
          · go_wp2
            exact ⟨⟨i + 1, by omega, by go_num, by rw [HSN.out, ← Bool.and_assoc, ← HB1.out]; rfl, (by repeat (first | exact Below.refl _ _ | assumption | apply Ext.alloc | apply Ext.drewN | apply Ext.drew | refine Ext.trans ?_ (by assumption)))⟩, by simp [intOf]; omega⟩
        · have zi : ¬ (i : Int) < (P.exc.length : Int) := by omega
          have hw : want = B1 := by rw [HW.out, HB1.out, HB0.out, List.take_of_length_le (by omega)]
          subst hw
          go_wp2
          go_ret
          exact ⟨by simp, HBG.out.trans ((Ext.trans HH.out HI1.out).mono HBG.out.size)⟩
    · have hq : (p.space == s) = false := by simp [hsp]
      have hw : want = true := by rw [HWANT.out, isoSays, hpa]; simp [hsp]
      subst hw
      clear hix hpa hrg hj
      go_wp2
      go_ret
      exact ⟨rfl, HBG.out⟩
end Go.Proofs.YtmkjlhplgcifiaaGreat
namespace Go.Proofs.YtmkjlhplgcifiaaGreat
open Go.ChangeShapes Go.WideShapes Go.ChangeAt Go.RowKit
attribute [local simp] World.cell?_grow
attribute [local go_sem] World.cell?_grow
attribute [local simp] World.cell?_alloc_there
attribute [local go_sem] World.cell?_alloc_there
attribute [local go_sem] eqg_blk std_blk eqg_pod std_pod eqg_sel std_sel eqg_prt std_prt
attribute [local go_sem ↓] eql_blk eql_sel neq_sel eql_prt eql_pod
attribute [local go_sem ↓] met_in1 met_in2 met_re1 met_re2
attribute [local go_sem ↓] met_has1 met_has2
attribute [local go_sem ↓] met_bl1 met_bl2
set_option linter.unusedVariables false
set_option linter.unusedSimpArgs false

section
variable {H : Type} {enc : TypeId × Value → H} {w : World} {base : Nat} {spare : Nat → Bool} {held : Bool}
theorem open_peer_val {fuel : Nat} {cs : List Value} {y : DataW H × List MemPlace} (h : DataW.trod enc Tryz.prog w base spare held fuel 69 cs = some y) (hw : ∀ n ∈ y.1.weights Tryz.prog 69, n ≤ reachBytes) :
    ∃ (x : DPeer) (a : Option Addr) (c : Nat), cs = [.int .i64 x.kind, .int .i64 x.need, .int .i64 x.ban, .int .i64 x.spaces, .int .i64 x.base, .int .i64 x.bits, .slice a x.exc.length c] ∧ rdBlks w.heap.size w a x.exc ∧ iPeer x := by
  obtain ⟨hl, n, hf⟩ := open_st Tryz.underlying69 h hw
  rw [cells_peer] at hl
  obtain ⟨v0, v1, v2, v3, v4, v5, v6, rfl⟩ := list_7 hl
  obtain ⟨z0, h0, g0⟩ := hf 0 _ rfl
  obtain ⟨z1, h1, g1⟩ := hf 1 _ rfl
  obtain ⟨z2, h2, g2⟩ := hf 2 _ rfl
  obtain ⟨z3, h3, g3⟩ := hf 3 _ rfl
  obtain ⟨z4, h4, g4⟩ := hf 4 _ rfl
  have k0 : DataW.trod enc Tryz.prog w base spare held n 3 [v0] = some z0 := by have q : DataW.trod enc Tryz.prog w base spare held n 3 (([v0, v1, v2, v3, v4, v5, v6].drop 0).take (Tryz.prog.cellsOf 3)) = some z0 := h0; rw [cells_int] at q; exact q
  obtain ⟨x0, e0, i0⟩ := open_it k0
  have k1 : DataW.trod enc Tryz.prog w base spare held n 56 [v1, v2] = some z1 := by have q : DataW.trod enc Tryz.prog w base spare held n 56 (([v0, v1, v2, v3, v4, v5, v6].drop 1).take (Tryz.prog.cellsOf 56)) = some z1 := h1; rw [cells_sel] at q; exact q
  obtain ⟨x1, x2, e1, e2, i1, i2⟩ := open_two Tryz.underlying56 rfl rfl rfl rfl k1 g1
  have k2 : DataW.trod enc Tryz.prog w base spare held n 3 [v3] = some z2 := by have q : DataW.trod enc Tryz.prog w base spare held n 3 (([v0, v1, v2, v3, v4, v5, v6].drop 3).take (Tryz.prog.cellsOf 3)) = some z2 := h2; rw [cells_int] at q; exact q
  obtain ⟨x3, e3, i3⟩ := open_it k2
  have k3 : DataW.trod enc Tryz.prog w base spare held n 47 [v4, v5] = some z3 := by have q : DataW.trod enc Tryz.prog w base spare held n 47 (([v0, v1, v2, v3, v4, v5, v6].drop 4).take (Tryz.prog.cellsOf 47)) = some z3 := h3; rw [cells_blk] at q; exact q
  obtain ⟨x4, x5, e4, e5, i4, i5⟩ := open_two Tryz.underlying47 rfl rfl rfl rfl k3 g3
  have k4 : DataW.trod enc Tryz.prog w base spare held n 67 [v6] = some z4 := by have q : DataW.trod enc Tryz.prog w base spare held n 67 (([v0, v1, v2, v3, v4, v5, v6].drop 6).take (Tryz.prog.cellsOf 67)) = some z4 := h4; rw [cells_sblk] at q; exact q
  obtain ⟨a6, l6, c6, e6, r6, i6⟩ := open_blks k4 g4
  simp only [List.cons.injEq, and_true] at e6
  subst e0 e1 e2 e3 e4 e5 e6
  exact ⟨⟨x0, x1, x2, x3, x4, x5, l6⟩, a6, c6, rfl, r6, i0, i1, i2, i3, i4, i5, i6⟩
theorem open_rule_val {fuel : Nat} {cs : List Value} {y : DataW H × List MemPlace} (h : DataW.trod enc Tryz.prog w base spare held fuel 64 cs = some y) (hw : ∀ n ∈ y.1.weights Tryz.prog 64, n ≤ reachBytes) :
    ∃ (x : DRule) (a a' : Option Addr) (c c' : Nat), cs = [.slice a x.peers.length c, .slice a' x.ports.length c'] ∧ rdPeers w.heap.size w a x.peers ∧ rdPorts w.heap.size w a' x.ports ∧ iRule x := by
  obtain ⟨hl, n, hf⟩ := open_st Tryz.underlying64 h hw
  rw [cells_rule] at hl
  obtain ⟨v0, v1, rfl⟩ := list_2 hl
  obtain ⟨z0, h0, g0⟩ := hf 0 _ rfl
  obtain ⟨z1, h1, g1⟩ := hf 1 _ rfl
  have k0 : DataW.trod enc Tryz.prog w base spare held n 61 [v0] = some z0 := by have q : DataW.trod enc Tryz.prog w base spare held n 61 (([v0, v1].drop 0).take (Tryz.prog.cellsOf 61)) = some z0 := h0; rw [cells_speer] at q; exact q
  obtain ⟨a0, l0, c0, e0, r0, i0⟩ := open_peers k0 g0
  simp only [List.cons.injEq, and_true] at e0
  have k1 : DataW.trod enc Tryz.prog w base spare held n 62 [v1] = some z1 := by have q : DataW.trod enc Tryz.prog w base spare held n 62 (([v0, v1].drop 1).take (Tryz.prog.cellsOf 62)) = some z1 := h1; rw [cells_sprt] at q; exact q
  obtain ⟨a1, l1, c1, e1, r1, i1⟩ := open_prts k1 g1
  simp only [List.cons.injEq, and_true] at e1
  subst e0 e1
  exact ⟨⟨l0, l1⟩, a0, a1, c0, c1, rfl, r0, r1, i0, i1⟩
end
theorem array7 {α : Type} {cs : Array α} (h : cs.size = 7) : ∃ v0 v1 v2 v3 v4 v5 v6, cs = #[v0, v1, v2, v3, v4, v5, v6] := by
  obtain ⟨l⟩ := cs
  obtain ⟨v0, v1, v2, v3, v4, v5, v6, rfl⟩ := list_7 (by simpa using h)
  exact ⟨v0, v1, v2, v3, v4, v5, v6, rfl⟩
theorem int_reads : Tryz.prog.readableRec 3 = true := by kernel_rfl
theorem int_row : 3 < Tryz.prog.types.size := of_decide_eq_true (by kernel_rfl)
theorem spod_reads : Tryz.prog.readableRec 25 = true := by kernel_rfl
theorem spod_row : 25 < Tryz.prog.types.size := of_decide_eq_true (by kernel_rfl)
theorem peer_reads : Tryz.prog.readableRec 69 = true := by kernel_rfl
theorem peer_row : 69 < Tryz.prog.types.size := of_decide_eq_true (by kernel_rfl)
theorem rule_reads : Tryz.prog.readableRec 64 = true := by kernel_rfl
theorem rule_row : 64 < Tryz.prog.types.size := of_decide_eq_true (by kernel_rfl)
end Go.Proofs.YtmkjlhplgcifiaaGreat
