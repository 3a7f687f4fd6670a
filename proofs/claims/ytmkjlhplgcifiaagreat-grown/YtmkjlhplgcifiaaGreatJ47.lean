/-
  palisadekeep: packet, allowed.
-/
import Derived.Test.YtmkjlhplgcifiaaGreatJ39
import Derived.Deep.CutRange
import Derived.Deep.DeepCutAuto
namespace Go.Proofs.YtmkjlhplgcifiaaGreat
open Go.ChangeShapes Go.WideShapes Go.ChangeAt Go.RowKit
attribute [local simp] World.cell?_grow
attribute [local go_sem] World.cell?_grow
attribute [local simp] World.cell?_alloc_there
attribute [local go_sem] World.cell?_alloc_there
attribute [local go_sem] eqg_blk std_blk eqg_pod std_pod eqg_sel std_sel eqg_prt std_prt
attribute [local go_sem ↓] eql_blk eql_sel neq_sel eql_prt eql_pod
attribute [local go_sem ↓] met_in1 met_in2 met_re1 met_re2
attribute [local go_sem ↓] met_has1 met_has2
attribute [local go_sem ↓] met_bl1 met_bl2
attribute [local go_sem] eqg_row std_row
attribute [local go_sem ↓] neq_row
set_option linter.unusedVariables false
set_option linter.unusedSimpArgs false
theorem keepAllowed_any (c : DClu) (k : DPkt) (pa qa : Option Addr) (pc qc : Nat) (w : World) (hp : rdPods w.heap.size w pa c.pods) (hq : rdPols w.heap.size w qa c.pols) (hpc : c.pods.length ≤ pc) (hr : (right c).1 = 0) (hk : pktOk k = true) :
    Calls Tryz.prog 15 #[.agg #[.slice pa c.pods.length pc, .slice qa c.pols.length qc], .agg #[.int .i64 k.src, .int .i64 k.dst, .int .i64 k.proto, .int .i64 k.port]] w
      fun e w' => e = .returned (.tuple #[.bool (may c 1 k k.src k.dst && may c 2 k k.dst k.src), .bool true]) ∧ Below w.heap.size w w' := by
  have HA := hid (show allowed c k = (may c 1 k k.src k.dst && may c 2 k k.dst k.src, 0) by simp [allowed, hr, hk])
  have HP := hid hp
  have HQ := hid hq
  clear hp hq hr hk
  go_enter Tryz.func15, Tryz.ntmps15
  go_wp2_with (go_at_call 32; refine (allowed_any c k _ _ _ _ _ (rdPods.to HP.out (by repeat (first | exact Below.refl _ _ | assumption | apply Ext.alloc | apply Ext.drewN | apply Ext.drew | refine Ext.trans ?_ (by assumption)))) (rdPols.to HQ.out (by repeat (first | exact Below.refl _ _ | assumption | apply Ext.alloc | apply Ext.drewN | apply Ext.drew | refine Ext.trans ?_ (by assumption)))) hpc).mono ?_; rw [HA.out]; rintro e w1 ⟨rfl, hb1⟩; obtain ⟨hc1, hf1⟩ := bcell hb1; have hz1 := hb_lt hb1)
  go_ret2
  exact ⟨rfl, (by repeat (first | exact Below.refl _ _ | assumption | apply Ext.alloc | apply Ext.drewN | apply Ext.drew | refine Ext.trans ?_ (by assumption)))⟩
theorem pkt_mk {a b c d : Int} (h0 : 0 ≤ a ∧ a ≤ 4294967295) (h1 : 0 ≤ b ∧ b ≤ 4294967295) (h2 : 1 ≤ c ∧ c ≤ 2) (h3 : 0 ≤ d ∧ d ≤ 65535) : pktOk ⟨a, b, c, d⟩ = true := by simp [pktOk, btw, h0, h1, h2, h3]
theorem keepfar {w : World} {p : Addr} {b o : Nat} {u v : Value} (h : w.cell? ⟨b, o, none⟩ = some u) (hne : p.block ≠ b) : (w.setCell p v).drew.cell? ⟨b, o, none⟩ = some u := (World.cell?_setCell_far w p ⟨b, o, none⟩ v hne).trans h
theorem set4 {W w wc : World} (h : Below W.heap.size w wc) (n : Nat) (hn : W.heap.size ≤ n) (a b c d : Value) : Below W.heap.size w ((((wc.setCell ⟨n, 0, none⟩ a).setCell ⟨n, 1, none⟩ b).setCell ⟨n, 2, none⟩ c).setCell ⟨n, 3, none⟩ d) := (((h.setCell hn _).setCell hn _).setCell hn _).setCell hn _
set_option maxRecDepth 100000 in
set_option maxHeartbeats 2000000 in
theorem mkPkt_any (pods : List DPod) (k : DPkt) (pa qa : Option Addr) (pc qn qc : Nat) (w : World) (hp : rdPods w.heap.size w pa pods) (ho : ∀ p ∈ pods, 0 ≤ p.ip ∧ p.ip ≤ 4294967295) (h0 : i64 k.src) (h1 : i64 k.dst) (h2 : i64 k.proto) (h3 : i64 k.port) :
    Calls Tryz.prog 14 #[.agg #[.slice pa pods.length pc, .slice qa qn qc], .agg #[.int .i64 k.src, .int .i64 k.dst, .int .i64 k.proto, .int .i64 k.port]] w
      fun e w' => (∃ x : DPkt, e = .returned (.agg #[.int .i64 x.src, .int .i64 x.dst, .int .i64 x.proto, .int .i64 x.port]) ∧ pktOk x = true) ∧ Below w.heap.size w w' := by
  have HP := hid hp
  have HO := hid ho
  have p0 := pk_in (c := k.src) (n := 4294967296) (by decide)
  have p1 := pk_in (c := k.dst) (n := 4294967296) (by decide)
  have p2 := pk_in (c := k.proto) (n := 2) (by decide)
  have p3 := pk_in (c := k.port) (n := 65536) (by decide)
  have HK := hid (pick_any k.src 4294967296)
  clear hp ho
  go_enter Tryz.func14, Tryz.ntmps14
  go_wp2
  go_cut [5] from 7 to 20 (fun x wx => x = .pointer (some ⟨w.heap.size + 1 + 1 + 1, 0, none⟩) ∧ wx = ((((w.alloc (.cells #[.slice pa pods.length pc, .slice qa qn qc] 28)).alloc (.cells #[.int .i64 k.src, .int .i64 k.dst, .int .i64 k.proto, .int .i64 k.port] 30)).alloc (.cells #[.int .i64 0, .int .i64 0, .int .i64 0, .int .i64 0] 30)).alloc (.cells #[.int .i64 (pk k.src 4294967296), .int .i64 (pk k.dst 4294967296), .int .i64 (IntKind.i64.wrap (1 + pk k.proto 2)), .int .i64 (pk k.port 65536)] 30)).drew)
  case first =>
    go_region_held3 (fun w' => w'.cell? ⟨w.heap.size, 0, none⟩ = some (.slice pa pods.length pc) ∧ w'.cell? ⟨w.heap.size + 1, 0, none⟩ = some (.int .i64 k.src) ∧ w'.cell? ⟨w.heap.size + 1, 1, none⟩ = some (.int .i64 k.dst) ∧ w'.cell? ⟨w.heap.size + 1, 2, none⟩ = some (.int .i64 k.proto) ∧ w'.cell? ⟨w.heap.size + 1, 3, none⟩ = some (.int .i64 k.port)) (go_keep) (first
      | (go_at_call 22; refine (pick_any _ _ _ (by assumption) (by decide) (by decide)).mono ?_; rintro e w' ⟨rfl, rfl⟩))
    all_goals (
      go_wp2_with fail
      go_meet
      exact ⟨rfl, rfl⟩)
  case rest =>
    obtain ⟨rfl, hwx⟩ := hcut
    have z : IntKind.i64.wrap (1 + pk k.proto 2) = 1 + pk k.proto 2 := IntWalk.i64_in _ (by omega)
    rw [z] at hwx
    have c0 : wc.cell? ⟨w.heap.size, 0, none⟩ = some (.slice pa pods.length pc) := by rw [hwx]; simp [go_sem]
    have k0 : wc.cell? ⟨w.heap.size + 1, 0, none⟩ = some (.int .i64 k.src) := by rw [hwx]; simp [go_sem]
    have k1 : wc.cell? ⟨w.heap.size + 1, 1, none⟩ = some (.int .i64 k.dst) := by rw [hwx]; simp [go_sem]
    have r0 : wc.cell? ⟨w.heap.size + 1 + 1, 0, none⟩ = some (.int .i64 0) := by rw [hwx]; simp [go_sem]
    have r1 : wc.cell? ⟨w.heap.size + 1 + 1, 1, none⟩ = some (.int .i64 0) := by rw [hwx]; simp [go_sem]
    have r2 : wc.cell? ⟨w.heap.size + 1 + 1, 2, none⟩ = some (.int .i64 0) := by rw [hwx]; simp [go_sem]
    have r3 : wc.cell? ⟨w.heap.size + 1 + 1, 3, none⟩ = some (.int .i64 0) := by rw [hwx]; simp [go_sem]
    have x0 : wc.cell? ⟨w.heap.size + 1 + 1 + 1, 0, none⟩ = some (.int .i64 (pk k.src 4294967296)) := by rw [hwx]; simp [go_sem]
    have x1 : wc.cell? ⟨w.heap.size + 1 + 1 + 1, 1, none⟩ = some (.int .i64 (pk k.dst 4294967296)) := by rw [hwx]; simp [go_sem]
    have x2 : wc.cell? ⟨w.heap.size + 1 + 1 + 1, 2, none⟩ = some (.int .i64 (1 + pk k.proto 2)) := by rw [hwx]; simp [go_sem]
    have x3 : wc.cell? ⟨w.heap.size + 1 + 1 + 1, 3, none⟩ = some (.int .i64 (pk k.port 65536)) := by rw [hwx]; simp [go_sem]
    have f2 : ∀ o, wc.frozen? ⟨w.heap.size + 1 + 1, o, none⟩ = false := fun o => by rw [hwx]; simp [go_sem]
    have f3 : ∀ o, wc.frozen? ⟨w.heap.size + 1 + 1 + 1, o, none⟩ = false := fun o => by rw [hwx]; simp [go_sem]
    have hsz : wc.heap.size = w.heap.size + 1 + 1 + 1 + 1 := by rw [hwx]; simp
    have hB : Below w.heap.size w wc := by rw [hwx]; exact (by repeat (first | exact Below.refl _ _ | assumption | apply Ext.alloc | apply Ext.drewN | apply Ext.drew | refine Ext.trans ?_ (by assumption)))
    clear hwx z HK
    have HB := hid hB
    have HPW := hid (rdPods.to HP.out hB)
    have HSZ := hid hsz
    clear hB hsz
    generalize pk k.src 4294967296 = s0 at *
    generalize pk k.dst 4294967296 = s1 at *
    generalize pk k.proto 2 = s2 at *
    generalize pk k.port 65536 = s3 at *
    by_cases hn : pods.length = 0
    · have hn0 : ¬ (0 : Int) < (pods.length : Int) := by omega
      by_cases hs : 0 ≤ k.src
      · by_cases hd : 0 ≤ k.dst
        · go_wp2
          exact bodyPost_ret (v := .agg #[.int .i64 s0, .int .i64 s1, .int .i64 (1 + s2), .int .i64 s3]) (by simp [results, Tryz.results14, go_sem, r0, r1, r2, r3, x0, x1, x2, x3]) rfl ⟨⟨⟨s0, s1, 1 + s2, s3⟩, rfl, pkt_mk (by omega) (by omega) (by omega) (by omega)⟩, set4 HB.out _ (by omega) _ _ _ _⟩
        · go_wp2
          exact bodyPost_ret (v := .agg #[.int .i64 s0, .int .i64 s1, .int .i64 (1 + s2), .int .i64 s3]) (by simp [results, Tryz.results14, go_sem, r0, r1, r2, r3, x0, x1, x2, x3]) rfl ⟨⟨⟨s0, s1, 1 + s2, s3⟩, rfl, pkt_mk (by omega) (by omega) (by omega) (by omega)⟩, set4 HB.out _ (by omega) _ _ _ _⟩
      · by_cases hd : 0 ≤ k.dst
        · go_wp2
          exact bodyPost_ret (v := .agg #[.int .i64 s0, .int .i64 s1, .int .i64 (1 + s2), .int .i64 s3]) (by simp [results, Tryz.results14, go_sem, r0, r1, r2, r3, x0, x1, x2, x3]) rfl ⟨⟨⟨s0, s1, 1 + s2, s3⟩, rfl, pkt_mk (by omega) (by omega) (by omega) (by omega)⟩, set4 HB.out _ (by omega) _ _ _ _⟩
        · go_wp2
          exact bodyPost_ret (v := .agg #[.int .i64 s0, .int .i64 s1, .int .i64 (1 + s2), .int .i64 s3]) (by simp [results, Tryz.results14, go_sem, r0, r1, r2, r3, x0, x1, x2, x3]) rfl ⟨⟨⟨s0, s1, 1 + s2, s3⟩, rfl, pkt_mk (by omega) (by omega) (by omega) (by omega)⟩, set4 HB.out _ (by omega) _ _ _ _⟩
    · have hn0 : (0 : Int) < (pods.length : Int) := by omega
      obtain ⟨b, off, rfl, hbl, HC⟩ : ∃ b off, pa = some ⟨b, off, none⟩ ∧ b < w.heap.size ∧ Hid (∀ j x, pods[j]? = some x → wc.cell? ⟨b, off + j * 4 + 1, none⟩ = some (.int .i64 x.ip)) := by
        obtain ⟨b, off, e, hb, _⟩ := HP.out.2 0 pods[0] (by simp)
        refine ⟨b, off, e, hb, fun j x hx => ?_⟩
        obtain ⟨b', off', e', _, _, h1, _⟩ := HPW.out.2 j x hx
        rw [e] at e'
        cases e'
        exact h1
      obtain ⟨js, hjs, hjs1, ps, hps, hss⟩ : ∃ (j : Nat), k.src % (pods.length : Int) = j ∧ j < pods.length ∧ ∃ p, pods[j]? = some p ∧ (0 ≤ p.ip ∧ p.ip ≤ 4294967295) := by
        have e1 := Int.emod_nonneg k.src (show (pods.length : Int) ≠ 0 by omega)
        have e2 := Int.emod_lt_of_pos k.src hn0
        refine ⟨(k.src % (pods.length : Int)).toNat, by omega, by omega, pods[(k.src % (pods.length : Int)).toNat]'(by omega), by simp, HO.out _ (List.getElem_mem _)⟩
      obtain ⟨jd, hjd, hjd1, pd, hpd, hdd⟩ : ∃ (j : Nat), k.dst % (pods.length : Int) = j ∧ j < pods.length ∧ ∃ p, pods[j]? = some p ∧ (0 ≤ p.ip ∧ p.ip ≤ 4294967295) := by
        have e1 := Int.emod_nonneg k.dst (show (pods.length : Int) ≠ 0 by omega)
        have e2 := Int.emod_lt_of_pos k.dst hn0
        refine ⟨(k.dst % (pods.length : Int)).toNat, by omega, by omega, pods[(k.dst % (pods.length : Int)).toNat]'(by omega), by simp, HO.out _ (List.getElem_mem _)⟩
      have is := HC.out js ps hps
      have id := HC.out jd pd hpd
      have hne0 : ¬ (pods.length : Int) = 0 := by omega
      have hnl : ¬ pods = [] := fun e => hn (by rw [e]; rfl)
      have t0 : (0 : Int) ≤ (js : Int) ∧ (js : Int) < (pods.length : Int) := by omega
      have t1 : (0 : Int) ≤ (jd : Int) ∧ (jd : Int) < (pods.length : Int) := by omega
      have hjt : 0 ≤ k.src → k.src.tmod (pods.length : Int) = (js : Int) := fun h => by rw [Int.tmod_eq_emod_of_nonneg h, hjs]
      have hjd' : 0 ≤ k.dst → k.dst.tmod (pods.length : Int) = (jd : Int) := fun h => by rw [Int.tmod_eq_emod_of_nonneg h, hjd]
      have hne1 : ¬ b = w.heap.size + 1 + 1 + 1 := by omega
      have hne2 : ¬ w.heap.size = w.heap.size + 1 + 1 + 1 := by omega
      have hne3 : ¬ w.heap.size + 1 = w.heap.size + 1 + 1 + 1 := by omega
      obtain ⟨t00, t01⟩ := t0
      obtain ⟨t10, t11⟩ := t1
      by_cases hs : 0 ≤ k.src
      · have hjt := hjt hs
        by_cases hd : 0 ≤ k.dst
        · have hjd' := hjd' hd
          go_wp2
          go_region_held3 (fun w' => w'.cell? ⟨w.heap.size, 0, none⟩ = some (.slice (some ⟨b, off, none⟩) pods.length pc) ∧ w'.cell? ⟨w.heap.size + 1, 0, none⟩ = some (.int .i64 k.src) ∧ w'.cell? ⟨w.heap.size + 1, 1, none⟩ = some (.int .i64 k.dst) ∧ w'.cell? ⟨b, off + js * 4 + 1, none⟩ = some (.int .i64 ps.ip) ∧ w'.cell? ⟨b, off + jd * 4 + 1, none⟩ = some (.int .i64 pd.ip)) (first | (refine ⟨keepfar (by assumption) ?_, keepfar (by assumption) ?_, keepfar (by assumption) ?_, keepfar (by assumption) ?_, keepfar (by assumption) ?_⟩ <;> (simp only []; omega)) | go_keep) (first | fail)
          have c0 := keepfar (p := ⟨w.heap.size + 1 + 1 + 1, 0, none⟩) (v := .int .i64 ps.ip) c0 (by show w.heap.size + 1 + 1 + 1 ≠ _; omega)
          have k0 := keepfar (p := ⟨w.heap.size + 1 + 1 + 1, 0, none⟩) (v := .int .i64 ps.ip) k0 (by show w.heap.size + 1 + 1 + 1 ≠ _; omega)
          have k1 := keepfar (p := ⟨w.heap.size + 1 + 1 + 1, 0, none⟩) (v := .int .i64 ps.ip) k1 (by show w.heap.size + 1 + 1 + 1 ≠ _; omega)
          have is := keepfar (p := ⟨w.heap.size + 1 + 1 + 1, 0, none⟩) (v := .int .i64 ps.ip) is (by show w.heap.size + 1 + 1 + 1 ≠ _; omega)
          have id := keepfar (p := ⟨w.heap.size + 1 + 1 + 1, 0, none⟩) (v := .int .i64 ps.ip) id (by show w.heap.size + 1 + 1 + 1 ≠ _; omega)
          have r0 := keepfar (p := ⟨w.heap.size + 1 + 1 + 1, 0, none⟩) (v := .int .i64 ps.ip) r0 (by show w.heap.size + 1 + 1 + 1 ≠ _; omega)
          have r1 := keepfar (p := ⟨w.heap.size + 1 + 1 + 1, 0, none⟩) (v := .int .i64 ps.ip) r1 (by show w.heap.size + 1 + 1 + 1 ≠ _; omega)
          have r2 := keepfar (p := ⟨w.heap.size + 1 + 1 + 1, 0, none⟩) (v := .int .i64 ps.ip) r2 (by show w.heap.size + 1 + 1 + 1 ≠ _; omega)
          have r3 := keepfar (p := ⟨w.heap.size + 1 + 1 + 1, 0, none⟩) (v := .int .i64 ps.ip) r3 (by show w.heap.size + 1 + 1 + 1 ≠ _; omega)
          have x0 : (wc.setCell ⟨w.heap.size + 1 + 1 + 1, 0, none⟩ (.int .i64 ps.ip)).drew.cell? ⟨w.heap.size + 1 + 1 + 1, 0, none⟩ = some (.int .i64 ps.ip) := by simp [go_sem, x0]
          have x1 : (wc.setCell ⟨w.heap.size + 1 + 1 + 1, 0, none⟩ (.int .i64 ps.ip)).drew.cell? ⟨w.heap.size + 1 + 1 + 1, 1, none⟩ = some (.int .i64 s1) := by simp [go_sem, x1]
          have x2 : (wc.setCell ⟨w.heap.size + 1 + 1 + 1, 0, none⟩ (.int .i64 ps.ip)).drew.cell? ⟨w.heap.size + 1 + 1 + 1, 2, none⟩ = some (.int .i64 (1 + s2)) := by simp [go_sem, x2]
          have x3 : (wc.setCell ⟨w.heap.size + 1 + 1 + 1, 0, none⟩ (.int .i64 ps.ip)).drew.cell? ⟨w.heap.size + 1 + 1 + 1, 3, none⟩ = some (.int .i64 s3) := by simp [go_sem, x3]
          have f2 : ∀ o, (wc.setCell ⟨w.heap.size + 1 + 1 + 1, 0, none⟩ (.int .i64 ps.ip)).drew.frozen? ⟨w.heap.size + 1 + 1, o, none⟩ = false := fun o => by simp [go_sem, f2]
          have f3 : ∀ o, (wc.setCell ⟨w.heap.size + 1 + 1 + 1, 0, none⟩ (.int .i64 ps.ip)).drew.frozen? ⟨w.heap.size + 1 + 1 + 1, o, none⟩ = false := fun o => by simp [go_sem, f3]
          have HB := hid (show Below w.heap.size w (wc.setCell ⟨w.heap.size + 1 + 1 + 1, 0, none⟩ (.int .i64 ps.ip)).drew from (HB.out.setCell (p := ⟨w.heap.size + 1 + 1 + 1, 0, none⟩) (by show w.heap.size ≤ w.heap.size + 1 + 1 + 1; omega) _).drew)
          generalize (wc.setCell ⟨w.heap.size + 1 + 1 + 1, 0, none⟩ (.int .i64 ps.ip)).drew = X1 at c0 k0 k1 is id r0 r1 r2 r3 x0 x1 x2 x3 f2 f3 HB ⊢
          go_wp2
          go_region_held3 (fun w' => w'.cell? ⟨w.heap.size, 0, none⟩ = some (.slice (some ⟨b, off, none⟩) pods.length pc) ∧ w'.cell? ⟨w.heap.size + 1, 0, none⟩ = some (.int .i64 k.src) ∧ w'.cell? ⟨w.heap.size + 1, 1, none⟩ = some (.int .i64 k.dst) ∧ w'.cell? ⟨b, off + js * 4 + 1, none⟩ = some (.int .i64 ps.ip) ∧ w'.cell? ⟨b, off + jd * 4 + 1, none⟩ = some (.int .i64 pd.ip)) (first | (refine ⟨keepfar (by assumption) ?_, keepfar (by assumption) ?_, keepfar (by assumption) ?_, keepfar (by assumption) ?_, keepfar (by assumption) ?_⟩ <;> (simp only []; omega)) | go_keep) (first | fail)
          have c0 := keepfar (p := ⟨w.heap.size + 1 + 1 + 1, 1, none⟩) (v := .int .i64 pd.ip) c0 (by show w.heap.size + 1 + 1 + 1 ≠ _; omega)
          have k0 := keepfar (p := ⟨w.heap.size + 1 + 1 + 1, 1, none⟩) (v := .int .i64 pd.ip) k0 (by show w.heap.size + 1 + 1 + 1 ≠ _; omega)
          have k1 := keepfar (p := ⟨w.heap.size + 1 + 1 + 1, 1, none⟩) (v := .int .i64 pd.ip) k1 (by show w.heap.size + 1 + 1 + 1 ≠ _; omega)
          have is := keepfar (p := ⟨w.heap.size + 1 + 1 + 1, 1, none⟩) (v := .int .i64 pd.ip) is (by show w.heap.size + 1 + 1 + 1 ≠ _; omega)
          have id := keepfar (p := ⟨w.heap.size + 1 + 1 + 1, 1, none⟩) (v := .int .i64 pd.ip) id (by show w.heap.size + 1 + 1 + 1 ≠ _; omega)
          have r0 := keepfar (p := ⟨w.heap.size + 1 + 1 + 1, 1, none⟩) (v := .int .i64 pd.ip) r0 (by show w.heap.size + 1 + 1 + 1 ≠ _; omega)
          have r1 := keepfar (p := ⟨w.heap.size + 1 + 1 + 1, 1, none⟩) (v := .int .i64 pd.ip) r1 (by show w.heap.size + 1 + 1 + 1 ≠ _; omega)
          have r2 := keepfar (p := ⟨w.heap.size + 1 + 1 + 1, 1, none⟩) (v := .int .i64 pd.ip) r2 (by show w.heap.size + 1 + 1 + 1 ≠ _; omega)
          have r3 := keepfar (p := ⟨w.heap.size + 1 + 1 + 1, 1, none⟩) (v := .int .i64 pd.ip) r3 (by show w.heap.size + 1 + 1 + 1 ≠ _; omega)
          have x0 : (X1.setCell ⟨w.heap.size + 1 + 1 + 1, 1, none⟩ (.int .i64 pd.ip)).drew.cell? ⟨w.heap.size + 1 + 1 + 1, 0, none⟩ = some (.int .i64 ps.ip) := by simp [go_sem, x0]
          have x1 : (X1.setCell ⟨w.heap.size + 1 + 1 + 1, 1, none⟩ (.int .i64 pd.ip)).drew.cell? ⟨w.heap.size + 1 + 1 + 1, 1, none⟩ = some (.int .i64 pd.ip) := by simp [go_sem, x1]
          have x2 : (X1.setCell ⟨w.heap.size + 1 + 1 + 1, 1, none⟩ (.int .i64 pd.ip)).drew.cell? ⟨w.heap.size + 1 + 1 + 1, 2, none⟩ = some (.int .i64 (1 + s2)) := by simp [go_sem, x2]
          have x3 : (X1.setCell ⟨w.heap.size + 1 + 1 + 1, 1, none⟩ (.int .i64 pd.ip)).drew.cell? ⟨w.heap.size + 1 + 1 + 1, 3, none⟩ = some (.int .i64 s3) := by simp [go_sem, x3]
          have f2 : ∀ o, (X1.setCell ⟨w.heap.size + 1 + 1 + 1, 1, none⟩ (.int .i64 pd.ip)).drew.frozen? ⟨w.heap.size + 1 + 1, o, none⟩ = false := fun o => by simp [go_sem, f2]
          have f3 : ∀ o, (X1.setCell ⟨w.heap.size + 1 + 1 + 1, 1, none⟩ (.int .i64 pd.ip)).drew.frozen? ⟨w.heap.size + 1 + 1 + 1, o, none⟩ = false := fun o => by simp [go_sem, f3]
          have HB := hid (show Below w.heap.size w (X1.setCell ⟨w.heap.size + 1 + 1 + 1, 1, none⟩ (.int .i64 pd.ip)).drew from (HB.out.setCell (p := ⟨w.heap.size + 1 + 1 + 1, 1, none⟩) (by show w.heap.size ≤ w.heap.size + 1 + 1 + 1; omega) _).drew)
          generalize (X1.setCell ⟨w.heap.size + 1 + 1 + 1, 1, none⟩ (.int .i64 pd.ip)).drew = X2 at c0 k0 k1 is id r0 r1 r2 r3 x0 x1 x2 x3 f2 f3 HB ⊢
          go_wp2
          exact bodyPost_ret (v := .agg #[.int .i64 ps.ip, .int .i64 pd.ip, .int .i64 (1 + s2), .int .i64 s3]) (by simp [results, Tryz.results14, go_sem, r0, r1, r2, r3, x0, x1, x2, x3]) rfl ⟨⟨⟨ps.ip, pd.ip, 1 + s2, s3⟩, rfl, pkt_mk (by omega) (by omega) (by omega) (by omega)⟩, set4 HB.out _ (by omega) _ _ _ _⟩
        · clear hjd'
          go_wp2
          go_region_held3 (fun w' => w'.cell? ⟨w.heap.size, 0, none⟩ = some (.slice (some ⟨b, off, none⟩) pods.length pc) ∧ w'.cell? ⟨w.heap.size + 1, 0, none⟩ = some (.int .i64 k.src) ∧ w'.cell? ⟨w.heap.size + 1, 1, none⟩ = some (.int .i64 k.dst) ∧ w'.cell? ⟨b, off + js * 4 + 1, none⟩ = some (.int .i64 ps.ip) ∧ w'.cell? ⟨b, off + jd * 4 + 1, none⟩ = some (.int .i64 pd.ip)) (first | (refine ⟨keepfar (by assumption) ?_, keepfar (by assumption) ?_, keepfar (by assumption) ?_, keepfar (by assumption) ?_, keepfar (by assumption) ?_⟩ <;> (simp only []; omega)) | go_keep) (first | fail)
          have c0 := keepfar (p := ⟨w.heap.size + 1 + 1 + 1, 0, none⟩) (v := .int .i64 ps.ip) c0 (by show w.heap.size + 1 + 1 + 1 ≠ _; omega)
          have k0 := keepfar (p := ⟨w.heap.size + 1 + 1 + 1, 0, none⟩) (v := .int .i64 ps.ip) k0 (by show w.heap.size + 1 + 1 + 1 ≠ _; omega)
          have k1 := keepfar (p := ⟨w.heap.size + 1 + 1 + 1, 0, none⟩) (v := .int .i64 ps.ip) k1 (by show w.heap.size + 1 + 1 + 1 ≠ _; omega)
          have is := keepfar (p := ⟨w.heap.size + 1 + 1 + 1, 0, none⟩) (v := .int .i64 ps.ip) is (by show w.heap.size + 1 + 1 + 1 ≠ _; omega)
          have id := keepfar (p := ⟨w.heap.size + 1 + 1 + 1, 0, none⟩) (v := .int .i64 ps.ip) id (by show w.heap.size + 1 + 1 + 1 ≠ _; omega)
          have r0 := keepfar (p := ⟨w.heap.size + 1 + 1 + 1, 0, none⟩) (v := .int .i64 ps.ip) r0 (by show w.heap.size + 1 + 1 + 1 ≠ _; omega)
          have r1 := keepfar (p := ⟨w.heap.size + 1 + 1 + 1, 0, none⟩) (v := .int .i64 ps.ip) r1 (by show w.heap.size + 1 + 1 + 1 ≠ _; omega)
          have r2 := keepfar (p := ⟨w.heap.size + 1 + 1 + 1, 0, none⟩) (v := .int .i64 ps.ip) r2 (by show w.heap.size + 1 + 1 + 1 ≠ _; omega)
          have r3 := keepfar (p := ⟨w.heap.size + 1 + 1 + 1, 0, none⟩) (v := .int .i64 ps.ip) r3 (by show w.heap.size + 1 + 1 + 1 ≠ _; omega)
          have x0 : (wc.setCell ⟨w.heap.size + 1 + 1 + 1, 0, none⟩ (.int .i64 ps.ip)).drew.cell? ⟨w.heap.size + 1 + 1 + 1, 0, none⟩ = some (.int .i64 ps.ip) := by simp [go_sem, x0]
          have x1 : (wc.setCell ⟨w.heap.size + 1 + 1 + 1, 0, none⟩ (.int .i64 ps.ip)).drew.cell? ⟨w.heap.size + 1 + 1 + 1, 1, none⟩ = some (.int .i64 s1) := by simp [go_sem, x1]
          have x2 : (wc.setCell ⟨w.heap.size + 1 + 1 + 1, 0, none⟩ (.int .i64 ps.ip)).drew.cell? ⟨w.heap.size + 1 + 1 + 1, 2, none⟩ = some (.int .i64 (1 + s2)) := by simp [go_sem, x2]
          have x3 : (wc.setCell ⟨w.heap.size + 1 + 1 + 1, 0, none⟩ (.int .i64 ps.ip)).drew.cell? ⟨w.heap.size + 1 + 1 + 1, 3, none⟩ = some (.int .i64 s3) := by simp [go_sem, x3]
          have f2 : ∀ o, (wc.setCell ⟨w.heap.size + 1 + 1 + 1, 0, none⟩ (.int .i64 ps.ip)).drew.frozen? ⟨w.heap.size + 1 + 1, o, none⟩ = false := fun o => by simp [go_sem, f2]
          have f3 : ∀ o, (wc.setCell ⟨w.heap.size + 1 + 1 + 1, 0, none⟩ (.int .i64 ps.ip)).drew.frozen? ⟨w.heap.size + 1 + 1 + 1, o, none⟩ = false := fun o => by simp [go_sem, f3]
          have HB := hid (show Below w.heap.size w (wc.setCell ⟨w.heap.size + 1 + 1 + 1, 0, none⟩ (.int .i64 ps.ip)).drew from (HB.out.setCell (p := ⟨w.heap.size + 1 + 1 + 1, 0, none⟩) (by show w.heap.size ≤ w.heap.size + 1 + 1 + 1; omega) _).drew)
          generalize (wc.setCell ⟨w.heap.size + 1 + 1 + 1, 0, none⟩ (.int .i64 ps.ip)).drew = X1 at c0 k0 k1 is id r0 r1 r2 r3 x0 x1 x2 x3 f2 f3 HB ⊢
          go_wp2
          exact bodyPost_ret (v := .agg #[.int .i64 ps.ip, .int .i64 s1, .int .i64 (1 + s2), .int .i64 s3]) (by simp [results, Tryz.results14, go_sem, r0, r1, r2, r3, x0, x1, x2, x3]) rfl ⟨⟨⟨ps.ip, s1, 1 + s2, s3⟩, rfl, pkt_mk (by omega) (by omega) (by omega) (by omega)⟩, set4 HB.out _ (by omega) _ _ _ _⟩
      · by_cases hd : 0 ≤ k.dst
        · have hjd' := hjd' hd
          go_wp2
          go_region_held3 (fun w' => w'.cell? ⟨w.heap.size, 0, none⟩ = some (.slice (some ⟨b, off, none⟩) pods.length pc) ∧ w'.cell? ⟨w.heap.size + 1, 0, none⟩ = some (.int .i64 k.src) ∧ w'.cell? ⟨w.heap.size + 1, 1, none⟩ = some (.int .i64 k.dst) ∧ w'.cell? ⟨b, off + js * 4 + 1, none⟩ = some (.int .i64 ps.ip) ∧ w'.cell? ⟨b, off + jd * 4 + 1, none⟩ = some (.int .i64 pd.ip)) (first | (refine ⟨keepfar (by assumption) ?_, keepfar (by assumption) ?_, keepfar (by assumption) ?_, keepfar (by assumption) ?_, keepfar (by assumption) ?_⟩ <;> (simp only []; omega)) | go_keep) (first | fail)
          have c0 := keepfar (p := ⟨w.heap.size + 1 + 1 + 1, 1, none⟩) (v := .int .i64 pd.ip) c0 (by show w.heap.size + 1 + 1 + 1 ≠ _; omega)
          have k0 := keepfar (p := ⟨w.heap.size + 1 + 1 + 1, 1, none⟩) (v := .int .i64 pd.ip) k0 (by show w.heap.size + 1 + 1 + 1 ≠ _; omega)
          have k1 := keepfar (p := ⟨w.heap.size + 1 + 1 + 1, 1, none⟩) (v := .int .i64 pd.ip) k1 (by show w.heap.size + 1 + 1 + 1 ≠ _; omega)
          have is := keepfar (p := ⟨w.heap.size + 1 + 1 + 1, 1, none⟩) (v := .int .i64 pd.ip) is (by show w.heap.size + 1 + 1 + 1 ≠ _; omega)
          have id := keepfar (p := ⟨w.heap.size + 1 + 1 + 1, 1, none⟩) (v := .int .i64 pd.ip) id (by show w.heap.size + 1 + 1 + 1 ≠ _; omega)
          have r0 := keepfar (p := ⟨w.heap.size + 1 + 1 + 1, 1, none⟩) (v := .int .i64 pd.ip) r0 (by show w.heap.size + 1 + 1 + 1 ≠ _; omega)
          have r1 := keepfar (p := ⟨w.heap.size + 1 + 1 + 1, 1, none⟩) (v := .int .i64 pd.ip) r1 (by show w.heap.size + 1 + 1 + 1 ≠ _; omega)
          have r2 := keepfar (p := ⟨w.heap.size + 1 + 1 + 1, 1, none⟩) (v := .int .i64 pd.ip) r2 (by show w.heap.size + 1 + 1 + 1 ≠ _; omega)
          have r3 := keepfar (p := ⟨w.heap.size + 1 + 1 + 1, 1, none⟩) (v := .int .i64 pd.ip) r3 (by show w.heap.size + 1 + 1 + 1 ≠ _; omega)
          have x0 : (wc.setCell ⟨w.heap.size + 1 + 1 + 1, 1, none⟩ (.int .i64 pd.ip)).drew.cell? ⟨w.heap.size + 1 + 1 + 1, 0, none⟩ = some (.int .i64 s0) := by simp [go_sem, x0]
          have x1 : (wc.setCell ⟨w.heap.size + 1 + 1 + 1, 1, none⟩ (.int .i64 pd.ip)).drew.cell? ⟨w.heap.size + 1 + 1 + 1, 1, none⟩ = some (.int .i64 pd.ip) := by simp [go_sem, x1]
          have x2 : (wc.setCell ⟨w.heap.size + 1 + 1 + 1, 1, none⟩ (.int .i64 pd.ip)).drew.cell? ⟨w.heap.size + 1 + 1 + 1, 2, none⟩ = some (.int .i64 (1 + s2)) := by simp [go_sem, x2]
          have x3 : (wc.setCell ⟨w.heap.size + 1 + 1 + 1, 1, none⟩ (.int .i64 pd.ip)).drew.cell? ⟨w.heap.size + 1 + 1 + 1, 3, none⟩ = some (.int .i64 s3) := by simp [go_sem, x3]
          have f2 : ∀ o, (wc.setCell ⟨w.heap.size + 1 + 1 + 1, 1, none⟩ (.int .i64 pd.ip)).drew.frozen? ⟨w.heap.size + 1 + 1, o, none⟩ = false := fun o => by simp [go_sem, f2]
          have f3 : ∀ o, (wc.setCell ⟨w.heap.size + 1 + 1 + 1, 1, none⟩ (.int .i64 pd.ip)).drew.frozen? ⟨w.heap.size + 1 + 1 + 1, o, none⟩ = false := fun o => by simp [go_sem, f3]
          have HB := hid (show Below w.heap.size w (wc.setCell ⟨w.heap.size + 1 + 1 + 1, 1, none⟩ (.int .i64 pd.ip)).drew from (HB.out.setCell (p := ⟨w.heap.size + 1 + 1 + 1, 1, none⟩) (by show w.heap.size ≤ w.heap.size + 1 + 1 + 1; omega) _).drew)
          generalize (wc.setCell ⟨w.heap.size + 1 + 1 + 1, 1, none⟩ (.int .i64 pd.ip)).drew = X2 at c0 k0 k1 is id r0 r1 r2 r3 x0 x1 x2 x3 f2 f3 HB ⊢
          go_wp2
          exact bodyPost_ret (v := .agg #[.int .i64 s0, .int .i64 pd.ip, .int .i64 (1 + s2), .int .i64 s3]) (by simp [results, Tryz.results14, go_sem, r0, r1, r2, r3, x0, x1, x2, x3]) rfl ⟨⟨⟨s0, pd.ip, 1 + s2, s3⟩, rfl, pkt_mk (by omega) (by omega) (by omega) (by omega)⟩, set4 HB.out _ (by omega) _ _ _ _⟩
        · clear hjd'
          go_wp2
          exact bodyPost_ret (v := .agg #[.int .i64 s0, .int .i64 s1, .int .i64 (1 + s2), .int .i64 s3]) (by simp [results, Tryz.results14, go_sem, r0, r1, r2, r3, x0, x1, x2, x3]) rfl ⟨⟨⟨s0, s1, 1 + s2, s3⟩, rfl, pkt_mk (by omega) (by omega) (by omega) (by omega)⟩, set4 HB.out _ (by omega) _ _ _ _⟩
end Go.Proofs.YtmkjlhplgcifiaaGreat
