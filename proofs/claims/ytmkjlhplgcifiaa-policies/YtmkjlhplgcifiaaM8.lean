/-
  Peers given back.
-/
import Derived.Test.YtmkjlhplgcifiaaM6
import Derived.Test.YtmkjlhplgcifiaaEq
import Derived.Deep.RegionHeld3
namespace Go.Proofs.Ytmkjlhplgcifiaa
open Go.ChangeShapes Go.WideShapes Go.ChangeAt Go.RowKit
attribute [local simp] World.cell?_grow
attribute [local go_sem] World.cell?_grow
attribute [local simp] World.cell?_alloc_there
attribute [local go_sem] World.cell?_alloc_there
attribute [local go_sem] eqg_blk std_blk eqg_pod std_pod eqg_sel std_sel eqg_prt std_prt
attribute [local go_sem ↓] eql_blk eql_sel neq_sel eql_prt eql_pod
attribute [local go_sem ↓] met_in1 met_in2 met_re1 met_re2
set_option linter.unusedVariables false
set_option linter.unusedSimpArgs false

theorem Only.cell {lo hi : Nat} {a w : World} (h : Only lo hi a w) {g o : Nat} {v : Value} (hv : a.cell? ⟨g, o, none⟩ = some v) (hn : ¬ (lo ≤ g ∧ g < hi)) : w.cell? ⟨g, o, none⟩ = some v := by
  rw [cell_heap (h.heap (cell_lt hv) hn)]; exact hv
theorem Only.drew {lo hi : Nat} {a w : World} (h : Only lo hi a w) : Only lo hi a w.drew := h
theorem Only.ext {lo hi : Nat} {a b c : World} (h : Only lo hi a b) (k : Below b.heap.size b c) : Only lo hi a c := h.trans (Only.of_below k)

set_option maxRecDepth 100000 in
set_option maxHeartbeats 8000000 in
theorem backPeers_some (l : List DPeer) (a : Addr) (cap B lo hi g : Nat) (f : Nat → Nat) (w : World) (hr : rdPeers B w (some a) l) (hB : B ≤ lo) (hlo : lo ≤ g) (hg : g < hi) (hs : hi ≤ w.heap.size)
    (hL : LnL 7 l.length (eLnPeer w (some a) l g) w g f l.length) (hf : f l.length ≤ hi) (hz : w.cell? ⟨g, l.length * 7, none⟩ = some (.int .i64 (-7))) :
    Calls Try.prog 56 #[.slice (some ⟨g, 0, none⟩) l.length (l.length + 1), .slice (some a) l.length cap] w fun e w' => e = .returned (.bool true) ∧ Only lo hi w w' := by
  have HR := hid hr
  have HL := hid hL
  have hlen := hr.1
  have HM := hid (mono_le hL.2.2.1)
  have hg0 := hL.2.1
  clear hr hL
  have hq : ∀ w, (binOp .eql 48 (.slice (some a) l.length cap) (.slice none 0 0)).run Try.prog w = .ok (.bool false) w := fun w => Lib.run_eql_slice_nil w 48 47 _ _ _ _ _ und_peer
  have hne : ((l.length : Int) != (l.length : Int)) = false := by simp
  go_enter Try.func56, Try.ntmps56
  go_wp2
  go_loopw [6, 7] (fun ok i wr => ∃ k : Nat, k ≤ l.length ∧ i = .int .i64 k ∧ ok = .bool true ∧ Only (f 0) (f k) w wr) (fun _ i _ => l.length - (intOf i).toNat)
  case atStart => exact ⟨0, Nat.zero_le _, rfl, rfl, Only.refl _ _ _⟩
  case round =>
    obtain ⟨k, hk, rfl, rfl, hon⟩ := hrel
    have HN := hid hon
    have hfk := HM.out k l.length hk (Nat.le_refl _)
    have hf0 := HM.out 0 k (Nat.zero_le _) hk
    by_cases hlt : k < l.length
    · obtain ⟨x, hxk⟩ : ∃ x, l[k]? = some x := ⟨l[k], by simp [hlt]⟩
      have HX := hid hxk
      have hfk1 := HM.out (k + 1) l.length hlt (Nat.le_refl _)
      obtain ⟨e0, e1, e2, e3, e4, e5, s, e6, hln⟩ := HL.out.2.2.2 k hlt x hxk
      obtain ⟨va, vn, vc, hve⟩ := hln.sl
      subst hve
      clear hxk
      obtain ⟨b, off, he, hb, c0, c1, c2, c3, c4, c5, ea, ec, c6, hre⟩ := HR.out.2 k x HX.out
      cases he
      rw [subA_eq (n := x.exc.length) (c := ec) (by rwa [Nat.add_assoc] at c6)] at hln
      have HE := hid hre
      have HLN := hid hln
      have D0 := hid (hon.cell e0 (by omega))
      have D1 := hid (hon.cell e1 (by omega))
      have D2 := hid (hon.cell e2 (by omega))
      have D3 := hid (hon.cell e3 (by omega))
      have D4 := hid (hon.cell e4 (by omega))
      have D5 := hid (hon.cell e5 (by omega))
      have d6 := hon.cell e6 (by omega)
      have C0 := hid (hon.cell c0 (by omega))
      have C1 := hid (hon.cell c1 (by omega))
      have C2 := hid (hon.cell c2 (by omega))
      have C3 := hid (hon.cell c3 (by omega))
      have C4 := hid (hon.cell c4 (by omega))
      have C5 := hid (hon.cell c5 (by omega))
      have g6 := hon.cell c6 (by omega)
      clear e0 e1 e2 e3 e4 e5 e6 c0 c1 c2 c3 c4 c5 c6 hre hln hon hz
      have i0 : (0 : Int) ≤ (k : Int) := by omega
      have i1 : (k : Int) < (l.length : Int) := by omega
      have i2 : (k : Int) < (l.length : Int) + 1 := by omega
      have i3 : (k : Int) < ((l.length + 1 : Nat) : Int) := by omega
      have i4 : k < l.length + 1 := by omega
      go_wp2
      go_region_held3 (fun w' => w'.cell? ⟨g, k * 7 + 6, none⟩ = some (.slice va vn vc) ∧ w'.cell? ⟨b, off + k * 7 + 6, none⟩ = some (.slice ea x.exc.length ec)) (go_keep) (first
        | (go_at_call 73; refine (backBlks_any x.exc ea (.slice va vn vc) ec B (f k) (f (k + 1)) _ (rdBlks.ext (HN.out.drew.below (B := B) (by omega) (by omega)) (Nat.le_refl _) HE.out) (by omega) (HLN.out.heap fun j h1 h2 => HN.out.heap (by omega) (by omega))).mono ?_; rintro e w1 ⟨rfl, hon1⟩; have d6' := hon1.cell (g := g) (o := k * 7 + 6) (v := .slice va vn vc) (by simp [d6]) (by omega); have g6' := hon1.cell (g := b) (o := off + k * 7 + 6) (v := .slice ea x.exc.length ec) (by simp [g6]) (by omega)))
      have E0 := hon1.cell (by exact D0.out) (by omega)
      have E1 := hon1.cell (by exact D1.out) (by omega)
      have E2 := hon1.cell (by exact D2.out) (by omega)
      have E3 := hon1.cell (by exact D3.out) (by omega)
      have E4 := hon1.cell (by exact D4.out) (by omega)
      have E5 := hon1.cell (by exact D5.out) (by omega)
      have G0 := hon1.cell (by exact C0.out) (by omega)
      have G1 := hon1.cell (by exact C1.out) (by omega)
      have G2 := hon1.cell (by exact C2.out) (by omega)
      have G3 := hon1.cell (by exact C3.out) (by omega)
      have G4 := hon1.cell (by exact C4.out) (by omega)
      have G5 := hon1.cell (by exact C5.out) (by omega)
      have HN1 := hid (show Only (f 0) (f (k + 1)) w w1 from (HN.out.drew.mono (Nat.le_refl _) (by have := HM.out k (k + 1) (by omega) (by omega); omega)).trans (hon1.mono hf0 (Nat.le_refl _)))
      clear hon1 d6' g6' d6 g6
      obtain ⟨wb, hwb⟩ : ∃ wb, wb = w1 := ⟨_, rfl⟩
      subst hwb
      go_wp2
      refine wp_region_grow (by kernel_rfl) (by kernel_rfl) ?_
      repeat (go_big_quiet_step (fail))
      refine wpQuiet_nil ?_
      intro w1 hb1
      obtain ⟨hc1, hf1⟩ := bcell hb1
      have hz1 := hb_lt hb1
      go_wp2
      exact ⟨⟨k + 1, by omega, by go_num, by simp, HN1.out.ext hb1⟩, by simp [intOf]; omega⟩
    · have HOW := hid (own_heap HL.out.1 (hon.heap (k := g) (by omega) (by omega)))
      have HON := hid (hon.mono (lo' := lo) (hi' := hi) (by omega) (by omega))
      clear hon hz
      go_wp2
      go_loopw [9] (fun i wr => ∃ k : Nat, k ≤ l.length + 1 ∧ i = .int .i64 k ∧ own wr g ((l.length + 1) * 7) ∧ Only lo hi w wr) (fun i _ => l.length + 1 - (intOf i).toNat)
      case atStart => exact ⟨0, Nat.zero_le _, rfl, HOW.out, HON.out⟩
      case round =>
        obtain ⟨k, hk, rfl, hown, hon⟩ := hrel
        have HON := hid hon
        have HOW := hid hown
        by_cases hlt2 : k < l.length + 1
        · have hfr := hown.2
          obtain ⟨v0, e0⟩ := hown.1 (k * 7) (by omega)
          obtain ⟨v1, e1⟩ := hown.1 (k * 7 + 1) (by omega)
          obtain ⟨v2, e2⟩ := hown.1 (k * 7 + 2) (by omega)
          obtain ⟨v3, e3⟩ := hown.1 (k * 7 + 3) (by omega)
          obtain ⟨v4, e4⟩ := hown.1 (k * 7 + 4) (by omega)
          obtain ⟨v5, e5⟩ := hown.1 (k * 7 + 5) (by omega)
          obtain ⟨v6, e6⟩ := hown.1 (k * 7 + 6) (by omega)
          clear hown hon
          go_wp2
          exact ⟨⟨k + 1, by omega, by go_num, sets_own _ _ (k * 7) _ [.int .i64 2, .int .i64 0, .int .i64 0, .int .i64 0, .int .i64 0, .int .i64 0, .slice none 0 0] HOW.out, HON.out.trans ((sets_only _ g (k * 7) [.int .i64 2, .int .i64 0, .int .i64 0, .int .i64 0, .int .i64 0, .int .i64 0, .slice none 0 0]).mono hlo (by omega))⟩, by simp [intOf]; omega⟩
        · clear hown hon
          go_wp2
          go_ret
          exact ⟨rfl, HON.out⟩

theorem backPeers_nil (hc cap : Nat) (w : World) :
    Calls Try.prog 56 #[.slice none 0 hc, .slice none 0 cap] w fun e w' => e = .returned (.bool true) ∧ w' = w := by
  have hq : ∀ c w, (binOp .eql 48 (.slice none 0 c) (.slice none 0 0)).run Try.prog w = .ok (.bool true) w := fun c w => Lib.run_eql_slice_nil w 48 47 _ _ _ _ _ und_peer
  go_enter Try.func56, Try.ntmps56
  go_wp2
  go_ret
  exact ⟨rfl, rfl⟩
theorem backPeers_any (l : List DPeer) (a : Option Addr) (v : Value) (cap B lo hi : Nat) (w : World) (hr : rdPeers B w a l) (hB : B ≤ lo) (hs : hi ≤ w.heap.size) (hl : lnPeers lo hi w w a v l) :
    Calls Try.prog 56 #[v, .slice a l.length cap] w fun e w' => e = .returned (.bool true) ∧ Only lo hi w w' := by
  rcases hl with ⟨rfl, rfl, rfl⟩ | ⟨a', g, f, rfl, h2, h3, rfl, h5, h6, h7⟩
  · refine (backPeers_nil 0 cap w).mono ?_
    rintro e w' ⟨rfl, rfl⟩
    exact ⟨rfl, Only.refl _ _ _⟩
  · exact backPeers_some l a' cap B lo hi g f w hr hB h2 h3 hs h5 h6 h7
end Go.Proofs.Ytmkjlhplgcifiaa
