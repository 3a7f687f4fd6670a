/-
  What a table says is what the policies say.
  palisade: Rows, Decide, Admits.
  palisade: Admits.
-/
import Derived.Test.YtmkjlhplgcifiaaGreatK16
import Derived.Test.YtmkjlhplgcifiaaGreatK18
import Derived.Test.YtmkjlhplgcifiaaGreatK06
import Derived.Test.YtmkjlhplgcifiaaGreatK08
import Derived.Test.YtmkjlhplgcifiaaGreatK22
namespace Go.Proofs.YtmkjlhplgcifiaaGreat
set_option linter.unusedVariables false
set_option linter.unusedSimpArgs false
theorem has_one (ip a : Int) : blkHas a ⟨ip, 32⟩ = decide (a = ip) := by simp [blkHas, pw]
theorem has_all (a : Int) (h0 : 0 ≤ a) (h1 : a ≤ 4294967295) : blkHas a ⟨0, 0⟩ = true := by
  have e : pw 0 = 4294967296 := by decide
  simp only [blkHas, e, decide_eq_true_eq]
  omega
theorem every_fits (k : DPkt) (hk : pktOk k = true) : prtFits k ⟨0, 0, 65535⟩ = true := by
  simp only [pktOk, Bool.and_eq_true, btw, decide_eq_true_eq] at hk
  simp [prtFits, btw, hk]
theorem one_ok {ip : Int} (h0 : 0 ≤ ip) (h1 : ip ≤ 4294967295) : blkOk ⟨ip, 32⟩ = true := blkOk_true.2 ⟨by show (0 : Int) ≤ 32; decide, by show (32 : Int) ≤ 32; decide, h0, h1, by show ip % pw 32 = 0; rw [show pw 32 = 1 by decide]; omega⟩
theorem all_ok : blkOk ⟨0, 0⟩ = true := by decide
theorem every_ok : prtOk ⟨0, 0, 65535⟩ = true := by decide
theorem pBlocks_ok {pods : List DPod} {space : Int} {x : DPeer} (ho : podsOk pods) (hx : peerOk x = true) : ∀ b ∈ pBlocks pods space x, blkOk b = true := by
  intro b hb
  unfold pBlocks at hb
  split at hb
  · obtain ⟨p, hp, rfl⟩ := List.mem_map.1 hb
    have := (podOk_true.1 (ho.1 p (List.mem_filter.1 hp).1)).2.1
    exact one_ok this.1 this.2
  · rename_i hk
    obtain ⟨_, h2, h3⟩ := peerOk_blocks' hx hk
    exact wout_ok 33 _ _ h2 h3 b hb
theorem pBlocks_has {pods : List DPod} {space : Int} {x : DPeer} (ho : podsOk pods) (hx : peerOk x = true) (h0 : 0 ≤ space) (h1 : space ≤ 3) (ip : Int) : (pBlocks pods space x).any (blkHas ip) = peerHas pods space ip x := by
  unfold pBlocks
  split
  · rename_i hk
    rw [← peerHas_pods pods space ip x hk ho h0 h1, List.any_map]
    unfold chosen
    rw [List.any_filter]
    congr 1
    funext p
    simp only [Function.comp, has_one]
    rw [Bool.and_comm, show (decide (ip = p.ip)) = decide (p.ip = ip) from by simp [eq_comm]]
  · rename_i hk
    obtain ⟨h1, h2, h3⟩ := peerOk_blocks' hx hk
    rw [wout_has 33 _ _ ip h2 h3 (by have := (blkOk_true.1 h2).1; show 33 - x.bits ≤ (33 : Nat); have : 0 ≤ x.bits := this; omega), peerHas, if_pos h1]
theorem dfars_ok {pods : List DPod} {space : Int} {r : DRule} (ho : podsOk pods) (hr : rulOk r = true) : ∀ b ∈ dfars pods space r, blkOk b = true := by
  intro b hb
  unfold dfars at hb
  split at hb
  · simp at hb; subst hb; exact all_ok
  · obtain ⟨x, hx, hb⟩ := List.mem_flatMap.1 hb
    exact pBlocks_ok ho ((rulOk_true hr).1 x hx) b hb
theorem dfars_has {pods : List DPod} {space : Int} {r : DRule} (ho : podsOk pods) (hr : rulOk r = true) (h0 : 0 ≤ space) (h1 : space ≤ 3) (ip : Int) (i0 : 0 ≤ ip) (i1 : ip ≤ 4294967295) : (dfars pods space r).any (blkHas ip) = eoa r.peers (peerHas pods space ip) := by
  unfold dfars eoa
  split
  · rename_i h; simp [has_all ip i0 i1, h]
  · rename_i h
    rw [List.any_flatMap, decide_eq_false h, Bool.false_or, Bool.eq_iff_iff, List.any_eq_true, List.any_eq_true]
    constructor
    · rintro ⟨x, hx, hh⟩
      exact ⟨x, hx, by rw [← pBlocks_has ho ((rulOk_true hr).1 x hx) h0 h1]; exact hh⟩
    · rintro ⟨x, hx, hh⟩
      exact ⟨x, hx, by rw [pBlocks_has ho ((rulOk_true hr).1 x hx) h0 h1]; exact hh⟩
theorem dports_ok {r : DRule} (hr : rulOk r = true) : ∀ p ∈ dports r, prtOk p = true := by
  intro p hp
  unfold dports at hp
  split at hp
  · simp at hp; subst hp; exact every_ok
  · exact (rulOk_true hr).2 p hp
theorem dports_fits (r : DRule) (k : DPkt) (hk : pktOk k = true) : (dports r).any (prtFits k) = eoa r.ports (prtFits k) := by
  unfold dports eoa
  split
  · rename_i h; simp [every_fits k hk, h]
  · rename_i h; rw [decide_eq_false h, Bool.false_or]
def gapFits (k : DPkt) (far : Int) (g : DGap) : Bool := blkHas far g.far && prtFits k g.port
theorem rgaps_fits {pods : List DPod} {space : Int} {r : DRule} (ho : podsOk pods) (hr : rulOk r = true) (h0 : 0 ≤ space) (h1 : space ≤ 3) (k : DPkt) (hk : pktOk k = true) (ip : Int) (i0 : 0 ≤ ip) (i1 : ip ≤ 4294967295) : (rgaps pods space r).any (gapFits k ip) = ruleFits pods space k ip r := by
  rw [ruleFits, ← dfars_has ho hr h0 h1 ip i0 i1, ← dports_fits r k hk, rgaps, List.any_flatMap]
  rw [Bool.eq_iff_iff, List.any_eq_true, Bool.and_eq_true, List.any_eq_true, List.any_eq_true]
  constructor
  · rintro ⟨f, hf, h⟩
    rw [fgaps, List.any_map, List.any_eq_true] at h
    obtain ⟨p, hp, h⟩ := h
    simp only [Function.comp, gapFits, Bool.and_eq_true] at h
    exact ⟨⟨f, hf, h.1⟩, p, hp, h.2⟩
  · rintro ⟨⟨f, hf, h⟩, p, hp, h'⟩
    refine ⟨f, hf, ?_⟩
    rw [fgaps, List.any_map, List.any_eq_true]
    exact ⟨p, hp, by simp [Function.comp, gapFits, h, h']⟩
theorem rules_ok {q : DPol} {way : Int} (hq : polOk q = true) : ∀ r ∈ rulesOf q way, rulOk r = true := by
  unfold rulesOf
  split
  · exact polOk_outs hq
  · exact polOk_ins hq
theorem pol_space {q : DPol} (hq : polOk q = true) : 0 ≤ q.space ∧ q.space ≤ 3 := by
  have := polOk_space hq
  simpa [btw] using this
theorem gaps_fits {pods : List DPod} {way : Int} {q : DPol} (ho : podsOk pods) (hq : polOk q = true) (k : DPkt) (hk : pktOk k = true) (ip : Int) (i0 : 0 ≤ ip) (i1 : ip ≤ 4294967295) : (gapsOf pods way q).any (gapFits k ip) = letsGo pods way k ip q := by
  rw [letsGo, gapsOf, List.any_flatMap, Bool.eq_iff_iff, List.any_eq_true, List.any_eq_true]
  have hs := pol_space hq
  constructor
  · rintro ⟨r, hr, h⟩
    exact ⟨r, hr, by rw [← rgaps_fits ho (rules_ok hq r hr) hs.1 hs.2 k hk ip i0 i1]; exact h⟩
  · rintro ⟨r, hr, h⟩
    exact ⟨r, hr, by rw [rgaps_fits ho (rules_ok hq r hr) hs.1 hs.2 k hk ip i0 i1]; exact h⟩
theorem gaps_ok {pods : List DPod} {way : Int} {q : DPol} (ho : podsOk pods) (hq : polOk q = true) : ∀ g ∈ gapsOf pods way q, blkOk g.far = true ∧ prtOk g.port = true := by
  intro g hg
  obtain ⟨r, hr, hg⟩ := List.mem_flatMap.1 hg
  obtain ⟨f, hf, hg⟩ := List.mem_flatMap.1 hg
  obtain ⟨p, hp, rfl⟩ := List.mem_map.1 hg
  exact ⟨dfars_ok ho (rules_ok hq r hr) f hf, dports_ok (rules_ok hq r hr) p hp⟩
/-! ### rows -/
def nearOf (way : Int) (k : DPkt) : Int := if way = 1 then k.src else k.dst
def farOf (way : Int) (k : DPkt) : Int := if way = 1 then k.dst else k.src
theorem mkRow_fits (way : Int) (near far : DBlk) (p : DPort) (b : Bool) (k : DPkt) : rowFits k (mkRow way near far p b) = (blkHas (nearOf way k) near && (blkHas (farOf way k) far && prtFits k p)) := by
  unfold mkRow nearOf farOf rowFits
  split
  · simp [Bool.and_assoc]
  · show (blkHas k.src far && blkHas k.dst near && _) = _
    rw [Bool.and_comm (blkHas k.src far), Bool.and_assoc]
theorem mkRow_ok {way : Int} {near far : DBlk} {p : DPort} {b : Bool} (h1 : blkOk near = true) (h2 : blkOk far = true) (h3 : prtOk p = true) : rowOk (mkRow way near far p b) = true := by
  unfold mkRow
  split
  · exact rowOk_true.2 ⟨h1, h2, h3⟩
  · exact rowOk_true.2 ⟨h2, h1, h3⟩
theorem mkRow_allow (way : Int) (near far : DBlk) (p : DPort) (b : Bool) : (mkRow way near far p b).allow = b := by unfold mkRow; split <;> rfl
theorem near_in {k : DPkt} (hk : pktOk k = true) (way : Int) : (0 ≤ nearOf way k ∧ nearOf way k ≤ 4294967295) ∧ 0 ≤ farOf way k ∧ farOf way k ≤ 4294967295 := by
  simp only [pktOk, Bool.and_eq_true, btw, decide_eq_true_eq] at hk
  unfold nearOf farOf
  split <;> omega
theorem last_fits {k : DPkt} (hk : pktOk k = true) : rowFits k lastRow = true := by
  have h := hk
  simp only [pktOk, Bool.and_eq_true, btw, decide_eq_true_eq] at h
  show (blkHas k.src ⟨0, 0⟩ && blkHas k.dst ⟨0, 0⟩ && prtFits k ⟨0, 0, 65535⟩) = true
  rw [has_all _ h.1.1.1.1 h.1.1.1.2, has_all _ h.1.1.2.1 h.1.1.2.2, every_fits k hk]; rfl
theorem last_ok : rowOk lastRow = true := by decide
/-- what the first row that fits says; none: no row fits -/
def says (k : DPkt) (L : List DRow) : Option Bool := (L.find? (rowFits k)).map (·.allow)
theorem says_append (k : DPkt) (A B : List DRow) : says k (A ++ B) = (says k A).or (says k B) := by
  unfold says
  rw [List.find?_append]
  cases A.find? (rowFits k) <;> rfl
theorem allow_ok {c : DClu} {way : Int} {p : DPod} (hc : cluOk c) (hp : podOk p = true) : ∀ r ∈ allowRows c way p, rowOk r = true ∧ r.allow = true := by
  intro r hr
  obtain ⟨q, hq, hr⟩ := List.mem_flatMap.1 hr
  obtain ⟨g, hg, rfl⟩ := List.mem_map.1 hr
  have hg := gaps_ok hc.1 (hc.2 q (List.mem_filter.1 hq).1) g hg
  have hip := (podOk_true.1 hp).2.1
  exact ⟨mkRow_ok (one_ok hip.1 hip.2) hg.1 hg.2, mkRow_allow _ _ _ _ _⟩
theorem allow_fits {c : DClu} {way : Int} {p : DPod} (hc : cluOk c) (k : DPkt) (hk : pktOk k = true) : (allowRows c way p).any (rowFits k) = (decide (nearOf way k = p.ip) && (c.pols.filter (applies way p)).any (letsGo c.pods way k (farOf way k))) := by
  have hn := near_in hk way
  unfold allowRows
  rw [List.any_flatMap, Bool.eq_iff_iff, Bool.and_eq_true, List.any_eq_true, List.any_eq_true, decide_eq_true_eq]
  constructor
  · rintro ⟨q, hq, h⟩
    rw [polRows, List.any_map, List.any_eq_true] at h
    obtain ⟨g, hg, h⟩ := h
    simp only [Function.comp, gapRow, mkRow_fits, has_one, Bool.and_eq_true, decide_eq_true_eq] at h
    refine ⟨h.1, q, hq, ?_⟩
    rw [← gaps_fits hc.1 (hc.2 q (List.mem_filter.1 hq).1) k hk _ hn.2.1 hn.2.2, List.any_eq_true]
    exact ⟨g, hg, by simp [gapFits, h.2]⟩
  · rintro ⟨e, q, hq, h⟩
    refine ⟨q, hq, ?_⟩
    rw [← gaps_fits hc.1 (hc.2 q (List.mem_filter.1 hq).1) k hk _ hn.2.1 hn.2.2, List.any_eq_true] at h
    obtain ⟨g, hg, h⟩ := h
    rw [polRows, List.any_map, List.any_eq_true]
    simp only [gapFits, Bool.and_eq_true] at h
    exact ⟨g, hg, by simp [Function.comp, gapRow, mkRow_fits, has_one, e, h]⟩
theorem pod_says {c : DClu} {way : Int} {p : DPod} {L : List DRow} (hc : cluOk c) (hp : podOk p = true) (h : PodRows c way p L) (k : DPkt) (hk : pktOk k = true) :
    (∀ r ∈ L, rowOk r = true) ∧ says k L = if nearOf way k = p.ip then (if c.pols.filter (applies way p) = [] then none else some ((c.pols.filter (applies way p)).any (letsGo c.pods way k (farOf way k)))) else none := by
  have hn := near_in hk way
  have hip := (podOk_true.1 hp).2.1
  rcases h with ⟨h1, rfl⟩ | ⟨h1, A, hA, _, rfl⟩
  · exact ⟨fun r hr => by simp at hr, by simp [says, h1]⟩
  · refine ⟨fun r hr => ?_, ?_⟩
    · rcases List.mem_append.1 hr with h | h
      · exact (allow_ok hc hp r ((hA r).1 h)).1
      · simp at h; subst h; exact mkRow_ok (one_ok hip.1 hip.2) all_ok every_ok
    · have hany : A.any (rowFits k) = (allowRows c way p).any (rowFits k) := by
        rw [Bool.eq_iff_iff, List.any_eq_true, List.any_eq_true]
        exact ⟨fun ⟨r, hr, h⟩ => ⟨r, (hA r).1 hr, h⟩, fun ⟨r, hr, h⟩ => ⟨r, (hA r).2 hr, h⟩⟩
      rw [allow_fits hc k hk] at hany
      have hsA : says k A = if (decide (nearOf way k = p.ip) && (c.pols.filter (applies way p)).any (letsGo c.pods way k (farOf way k))) = true then some true else none := by
        unfold says
        cases hf : A.find? (rowFits k) with
        | none =>
          have : A.any (rowFits k) = false := by
            rw [Bool.eq_false_iff]
            intro h
            obtain ⟨r, hr, h⟩ := List.any_eq_true.1 h
            exact List.find?_eq_none.1 hf r hr h
          rw [hany] at this
          rw [this]; rfl
        | some r =>
          have hm := List.mem_of_find?_eq_some hf
          have : A.any (rowFits k) = true := List.any_eq_true.2 ⟨r, hm, List.find?_some hf⟩
          rw [hany] at this
          rw [this, if_pos rfl]
          show some r.allow = _
          rw [(allow_ok hc hp r ((hA r).1 hm)).2]
      have hd : says k [denyRow way p] = if nearOf way k = p.ip then some false else none := by
        unfold says
        rw [List.find?_singleton]
        have : rowFits k (denyRow way p) = decide (nearOf way k = p.ip) := by
          rw [denyRow, mkRow_fits, has_one, has_all _ hn.2.1 hn.2.2, every_fits k hk]; simp
        rw [this]
        by_cases e : nearOf way k = p.ip
        · simp [e, denyRow, mkRow_allow]
        · simp [e]
      rw [says_append, hsA, hd]
      by_cases e : nearOf way k = p.ip
      · simp only [e, decide_true, Bool.true_and, if_true, if_neg h1]
        cases (c.pols.filter (applies way p)).any (letsGo c.pods way k (farOf way k)) <;> rfl
      · simp [e]
theorem tab_says {c : DClu} {way host : Int} (hc : cluOk c) (k : DPkt) (hk : pktOk k = true) : ∀ {ps : List DPod} {L : List DRow}, TabRows c way host ps L → (∀ p ∈ ps, podOk p = true) → (ps.Pairwise fun a b => a.ip ≠ b.ip) →
    (∀ r ∈ L, rowOk r = true) ∧ says k L = match podAt ps (nearOf way k) with | none => none | some p => if p.host = host ∧ ¬ c.pols.filter (applies way p) = [] then some ((c.pols.filter (applies way p)).any (letsGo c.pods way k (farOf way k))) else none
  | [], L, h, _, _ => by have h : L = [] := h; subst h; exact ⟨fun r hr => by simp at hr, rfl⟩
  | p :: ps, L, ⟨A, B, h1, h2, h3⟩, ho, hw => by
    obtain ⟨hw1, hw2⟩ := List.pairwise_cons.1 hw
    obtain ⟨hB, hsB⟩ := tab_says hc k hk h2 (fun q hq => ho q (List.mem_cons_of_mem _ hq)) hw2
    have hpA : (∀ r ∈ A, rowOk r = true) ∧ says k A = if nearOf way k = p.ip ∧ p.host = host then (if c.pols.filter (applies way p) = [] then none else some ((c.pols.filter (applies way p)).any (letsGo c.pods way k (farOf way k)))) else none := by
      split at h1
      · rename_i hh
        obtain ⟨x, y⟩ := pod_says hc (ho p (List.mem_cons_self ..)) h1 k hk
        exact ⟨x, by rw [y]; simp [hh]⟩
      · rename_i hh
        subst h1
        exact ⟨fun r hr => by simp at hr, by simp [says, hh]⟩
    subst h3
    refine ⟨fun r hr => ?_, ?_⟩
    · rcases List.mem_append.1 hr with h | h
      · exact hpA.1 r h
      · exact hB r h
    · rw [says_append, hpA.2, hsB]
      unfold podAt
      rw [List.find?_cons]
      by_cases e : nearOf way k = p.ip
      · have hnone : ps.find? (fun q => decide (q.ip = nearOf way k)) = none := by
          rw [List.find?_eq_none]
          intro q hq
          have := hw1 q hq
          simp only [decide_eq_true_eq]
          intro e2
          exact this (by rw [← e, e2])
        rw [hnone]
        simp only [e, true_and, decide_true, Option.or_none]
        by_cases hh : p.host = host
        · by_cases hf : c.pols.filter (applies way p) = []
          · simp [hh, hf]
          · simp only [hh, if_true, if_neg hf, true_and, not_false_iff]; rw [if_pos hf]
        · simp [hh]
      · rw [if_neg (fun h => e h.1), Option.none_or]
        have : decide (p.ip = nearOf way k) = false := decide_eq_false (fun h => e h.symm)
        rw [this]
/-- what is decided in a table -/
def decd (c : DClu) (host way : Int) (k : DPkt) : Bool := match podAt c.pods (nearOf way k) with | none => true | some p => if p.host = host then may c way k (nearOf way k) (farOf way k) else true
theorem find_idx {α : Type} (f : α → Bool) : ∀ (l : List α) (r : α), l.find? f = some r → ∃ n, l.findIdx? f = some n ∧ l[n]? = some r
  | [], _, h => by simp at h
  | a :: t, r, h => by
    rw [List.find?_cons] at h
    rw [List.findIdx?_cons]
    cases e : f a
    · rw [e] at h
      obtain ⟨n, h1, h2⟩ := find_idx f t r h
      exact ⟨n + 1, by simp [h1], by simpa using h2⟩
    · rw [e] at h
      exact ⟨0, by simp, by simpa using h⟩
theorem tab_decides {c : DClu} {way host : Int} {L : List DRow} (hc : cluOk c) (hT : TabRows c way host c.pods L) (k : DPkt) (hk : pktOk k = true) :
    ∃ n r, (L ++ [lastRow]).findIdx? (rowFits k) = some n ∧ (L ++ [lastRow])[n]? = some r ∧ r.allow = decd c host way k := by
  obtain ⟨hok, hs⟩ := tab_says hc k hk hT hc.1.1 hc.1.2
  have hall : says k (L ++ [lastRow]) = some (decd c host way k) := by
    have hl : says k [lastRow] = some true := by unfold says; rw [List.find?_singleton, last_fits hk]; rfl
    rw [says_append, hs, hl]
    unfold decd
    cases hp : podAt c.pods (nearOf way k) with
    | none => rfl
    | some p =>
      have hm := may_held (k := k) (way := way) (far := farOf way k) hp
      simp only []
      by_cases hh : p.host = host
      · by_cases hf : c.pols.filter (applies way p) = []
        · rw [hm, hf]; simp [hh, eoa]
        · rw [hm, if_pos ⟨hh, hf⟩, if_pos hh]
          unfold eoa
          rw [decide_eq_false (by intro h; exact hf (List.length_eq_zero_iff.1 h))]; rfl
      · simp [hh]
  unfold says at hall
  cases hf : (L ++ [lastRow]).find? (rowFits k) with
  | none => rw [hf] at hall; cases hall
  | some r =>
    rw [hf] at hall
    obtain ⟨n, h1, h2⟩ := find_idx _ _ _ hf
    exact ⟨n, r, h1, h2, by simpa using hall⟩
def pkt0 : DPkt := ⟨0, 0, 1, 0⟩
theorem tab_ok {c : DClu} {way host : Int} {L : List DRow} (hc : cluOk c) (hT : TabRows c way host c.pods L) : ∀ r ∈ L ++ [lastRow], rowOk r = true := by
  intro r hr
  rcases List.mem_append.1 hr with h | h
  · exact (tab_says hc pkt0 (by decide) hT hc.1.1 hc.1.2).1 r h
  · simp at h; subst h; exact last_ok
/-- all tables together say what the policies say -/
theorem decd_all {c : DClu} (hc : cluOk c) (k : DPkt) (way : Int) : (decd c 0 way k && decd c 1 way k && decd c 2 way k && decd c 3 way k) = may c way k (nearOf way k) (farOf way k) := by
  unfold decd
  cases hp : podAt c.pods (nearOf way k) with
  | none => rw [may_none hp]; rfl
  | some p =>
    have hh := (podOk_true.1 (hc.1.1 p (List.mem_of_find?_eq_some hp))).1
    have : p.host = 0 ∨ p.host = 1 ∨ p.host = 2 ∨ p.host = 3 := by omega
    simp only []
    rcases this with h | h | h | h <;> simp [h]
end Go.Proofs.YtmkjlhplgcifiaaGreat
namespace Go.Proofs.YtmkjlhplgcifiaaGreat
open Go.ChangeShapes Go.WideShapes Go.ChangeAt Go.RowKit
attribute [local simp] World.cell?_grow
attribute [local go_sem] World.cell?_grow
attribute [local simp] World.cell?_alloc_there
attribute [local go_sem] World.cell?_alloc_there
attribute [local go_sem] eqg_blk std_blk eqg_pod std_pod eqg_sel std_sel eqg_prt std_prt
attribute [local go_sem ↓] eql_blk eql_sel neq_sel eql_prt eql_pod
attribute [local go_sem ↓] met_in1 met_in2 met_re1 met_re2
attribute [local go_sem ↓] met_has1 met_has2
attribute [local go_sem ↓] met_bl1 met_bl2
attribute [local go_sem] eqg_row std_row
attribute [local go_sem ↓] neq_row
set_option linter.unusedVariables false
set_option linter.unusedSimpArgs false
theorem seek_in : ∀ (ps : List (Int × Int)) (vs : List Value) (i : Nat) (h y : Int), vs.length = ps.length → (h, y) ∈ ps → ∃ n v, seek h y ps vs i = some (i + n, v) ∧ ps[n]? = some (h, y) ∧ vs[n]? = some v
  | [], _, _, _, _, _, hm => by simp at hm
  | p :: ps, [], _, _, _, hl, _ => by simp at hl
  | p :: ps, v :: vs, i, h, y, hl, hm => by
    rw [seek]
    by_cases e : h = p.1 ∧ y = p.2
    · exact ⟨0, v, by simp [e], by simp [e], by simp⟩
    · have hm : (h, y) ∈ ps := by
        rcases List.mem_cons.1 hm with h1 | h1
        · exact absurd ⟨congrArg Prod.fst h1, congrArg Prod.snd h1⟩ e
        · exact h1
      obtain ⟨n, u, h1, h2, h3⟩ := seek_in ps vs (i + 1) h y (by simpa using hl) hm
      refine ⟨n + 1, u, ?_, by simpa using h2, by simpa using h3⟩
      rw [if_neg (by simpa using e), h1]
      congr 2
      omega
/-- tables in memory, with their rows -/
def TabsAs (B : Nat) (w : World) (tb : Nat) (c : DClu) (T : Int × Int → List DRow) : Prop :=
  ∃ (r : Nat) (vs : List Value), tb < B ∧ r < B ∧ w.cell? ⟨tb, 2, none⟩ = some (.map (some r)) ∧ MapAt w r vs ∧ vs.length = 8 ∧
    ∀ (i : Nat) (p : Int × Int) (v : Value), plist[i]? = some p → vs[i]? = some v → ∃ (a : Addr) (cc : Nat) (L : List DRow), v = .slice (some a) (T p).length cc ∧ T p = L ++ [lastRow] ∧ TabRows c p.2 p.1 c.pods L ∧ rdRows B w (some a) (T p)
theorem TabsAs.ext {B B' : Nat} {w w' : World} {tb : Nat} {c : DClu} {T : Int × Int → List DRow} (h : TabsAs B w tb c T) (hw : Below B w w') (hB : B ≤ B') : TabsAs B' w' tb c T := by
  obtain ⟨r, vs, h1, h2, h3, h4, h5, h6⟩ := h
  refine ⟨r, vs, by omega, by omega, (hw.cell (p := ⟨tb, 2, none⟩) h1).trans h3, (hw.block r h2).trans h4, h5, fun i p v hp hv => ?_⟩
  obtain ⟨a, cc, L, e1, e2, e3, e4⟩ := h6 i p v hp hv
  exact ⟨a, cc, L, e1, e2, e3, rdRows.ext hw hB e4⟩
theorem TabsAs.to {w w' : World} {tb : Nat} {c : DClu} {T : Int × Int → List DRow} (h : TabsAs w.heap.size w tb c T) (hw : Below w.heap.size w w') : TabsAs w'.heap.size w' tb c T := h.ext hw hw.size
theorem plist_inj : ∀ i j : Fin 8, plist[i.val]? = plist[j.val]? → i = j := by decide
theorem TabsAt.as {B : Nat} {w : World} {tb : Nat} {c : DClu} (h : TabsAt B w tb c) : ∃ T, TabsAs B w tb c T := by
  obtain ⟨r, vs, h1, h2, h3, h4, h5, h6⟩ := h
  have key : ∀ p : Int × Int, ∃ l : List DRow, ∀ (i : Nat) (v : Value), plist[i]? = some p → vs[i]? = some v → ∃ (a : Addr) (cc : Nat) (L : List DRow), v = .slice (some a) l.length cc ∧ l = L ++ [lastRow] ∧ TabRows c p.2 p.1 c.pods L ∧ rdRows B w (some a) l := by
    intro p
    by_cases hp : p ∈ plist
    · obtain ⟨i, hi⟩ := List.mem_iff_getElem?.1 hp
      have hil : i < vs.length := by have := (List.getElem?_eq_some_iff.1 hi).1; rw [h5]; exact this
      obtain ⟨a, cc, n, L, e1, e2, e3, e4⟩ := h6 i p vs[i] hi (List.getElem?_eq_getElem hil)
      refine ⟨L ++ [lastRow], fun j v hj hv => ?_⟩
      have hij : j = i := by
        have x1 := (List.getElem?_eq_some_iff.1 hi).1
        have y1 := (List.getElem?_eq_some_iff.1 hj).1
        exact congrArg Fin.val (plist_inj ⟨j, y1⟩ ⟨i, x1⟩ (hj.trans hi.symm))
      subst hij
      rw [List.getElem?_eq_getElem hil] at hv
      cases hv
      exact ⟨a, cc, L, by rw [e1, e2], rfl, e3, e4⟩
    · exact ⟨[], fun j v hj _ => absurd (List.mem_of_getElem? hj) hp⟩
  exact ⟨fun p => Classical.choose (key p), r, vs, h1, h2, h3, h4, h5, fun i p v hp hv => Classical.choose_spec (key p) i v hp hv⟩
/-- where a table is -/
theorem TabsAs.look {w : World} {tb : Nat} {c : DClu} {T : Int × Int → List DRow} (h : TabsAs w.heap.size w tb c T) (host way : Int) (hm : (host, way) ∈ plist) :
    ∃ (r : Nat) (vs : List Value) (a : Addr) (cc : Nat), w.cell? ⟨tb, 2, none⟩ = some (.map (some r)) ∧ MapAt w r vs ∧ (∃ n, seek host way plist vs 0 = some (n, .slice (some a) (T (host, way)).length cc)) ∧ rdRows w.heap.size w (some a) (T (host, way)) := by
  obtain ⟨r, vs, h1, h2, h3, h4, h5, h6⟩ := h
  obtain ⟨n, v, e1, e2, e3⟩ := seek_in plist vs 0 host way (by rw [h5]; rfl) hm
  obtain ⟨a, cc, L, rfl, hL, hT, hr⟩ := h6 n _ v e2 e3
  exact ⟨r, vs, a, cc, h3, h4, ⟨_, e1⟩, hr⟩
theorem TabsAs.tab {B : Nat} {w : World} {tb : Nat} {c : DClu} {T : Int × Int → List DRow} (h : TabsAs B w tb c T) (host way : Int) (hm : (host, way) ∈ plist) : ∃ L, T (host, way) = L ++ [lastRow] ∧ TabRows c way host c.pods L := by
  obtain ⟨r, vs, h1, h2, h3, h4, h5, h6⟩ := h
  obtain ⟨n, v, e1, e2, e3⟩ := seek_in plist vs 0 host way (by rw [h5]; rfl) hm
  obtain ⟨a, cc, L, rfl, hL, hT, hr⟩ := h6 n _ v e2 e3
  exact ⟨L, hL, hT⟩
end Go.Proofs.YtmkjlhplgcifiaaGreat
namespace Go.Proofs.YtmkjlhplgcifiaaGreat
open Go.ChangeShapes Go.WideShapes Go.ChangeAt Go.RowKit
attribute [local simp] World.cell?_grow
attribute [local go_sem] World.cell?_grow
attribute [local simp] World.cell?_alloc_there
attribute [local go_sem] World.cell?_alloc_there
attribute [local go_sem] eqg_blk std_blk eqg_pod std_pod eqg_sel std_sel eqg_prt std_prt
attribute [local go_sem ↓] eql_blk eql_sel neq_sel eql_prt eql_pod
attribute [local go_sem ↓] met_in1 met_in2 met_re1 met_re2
attribute [local go_sem ↓] met_has1 met_has2
attribute [local go_sem ↓] met_bl1 met_bl2
attribute [local go_sem] eqg_row std_row
attribute [local go_sem ↓] neq_row
set_option linter.unusedVariables false
set_option linter.unusedSimpArgs false
set_option maxHeartbeats 1000000 in
theorem allPl (f : Int × Int → Bool) (k0 k1 : Value) (a : Option Addr) (cap : Nat) (l : List (Int × Int)) (w : World) (hl : rdPls w.heap.size w a l)
    (hK : ∀ (x : Int × Int) (w1 : World), x ∈ l → Below w.heap.size w w1 → Calls Tryz.prog 40 #[.agg #[.int .i64 x.1, .int .i64 x.2], k0, k1] w1 fun e w2 => e = .returned (.bool (f x)) ∧ Below w1.heap.size w1 w2) :
    Calls Tryz.prog 38 #[.slice a l.length cap, .func (.func 40) #[] #[k0, k1]] w fun e w' => e = .returned (.bool (l.all f)) ∧ Below w.heap.size w w' := by
  have HK := hid hK
  obtain ⟨hlen, hl⟩ := hl
  have HL := hid hl
  clear hl hK
  go_enter Tryz.func38, Tryz.ntmps38
  go_wp2
  go_loopw [9] (fun i wr => ∃ k : Nat, k ≤ l.length ∧ i = .int .i64 k ∧ (l.take k).all f = true ∧ Below w.heap.size w wr) (fun i _ => l.length - (intOf i).toNat)
  case atStart => exact ⟨0, Nat.zero_le _, rfl, rfl, Below.refl _ _⟩
  case round =>
    obtain ⟨k, hk, rfl, hall, hbw⟩ := hrel
    have HA := hid hall
    clear hall
    by_cases hlt : k < l.length
    · obtain ⟨hc, hf⟩ := bcell hbw
      obtain ⟨x, hxk⟩ : ∃ x, l[k]? = some x := ⟨l[k], by simp [hlt]⟩
      have HX := hid hxk
      clear hxk
      obtain ⟨b, off, rfl, hb, c0, c1⟩ := HL.out k x HX.out
      cases hx : f x
      · go_wp2_with (go_at_call 40; refine (HK.out x _ (List.mem_of_getElem? HX.out) (by repeat (first | exact Below.refl _ _ | assumption | apply Ext.alloc | apply Ext.drewN | apply Ext.drew | refine Ext.trans ?_ (by assumption)))).mono ?_; rw [hx]; rintro e w1 ⟨rfl, hb1⟩)
        go_ret
        exact ⟨ret_bool (by rw [all_false HX.out hx]), (by repeat (first | exact Below.refl _ _ | assumption | apply Ext.alloc | apply Ext.drewN | apply Ext.drew | refine Ext.trans ?_ (by assumption)))⟩
      · go_wp2_with (go_at_call 40; refine (HK.out x _ (List.mem_of_getElem? HX.out) (by repeat (first | exact Below.refl _ _ | assumption | apply Ext.alloc | apply Ext.drewN | apply Ext.drew | refine Ext.trans ?_ (by assumption)))).mono ?_; rw [hx]; rintro e w1 ⟨rfl, hb1⟩)
        exact ⟨⟨k + 1, by omega, by go_num, take_all HX.out HA.out hx, (by repeat (first | exact Below.refl _ _ | assumption | apply Ext.alloc | apply Ext.drewN | apply Ext.drew | refine Ext.trans ?_ (by assumption)))⟩, by simp [intOf]; omega⟩
    · go_wp2
      go_ret
      have := HA.out
      rw [List.take_of_length_le (by omega)] at this
      exact ⟨ret_bool (by rw [this]), hbw⟩
theorem admClo (c : DClu) (T : Int × Int → List DRow) (tb : Nat) (p : Int × Int) (k : DPkt) (tc kb : Nat) (w : World) (h : TabsAs w.heap.size w tb c T) (hm : p ∈ plist) (hk : pktOk k = true) (hc : cluOk c) (t0 : w.cell? ⟨tc, 0, none⟩ = some (.pointer (some ⟨tb, 0, none⟩)))
    (c0 : w.cell? ⟨kb, 0, none⟩ = some (.int .i64 k.src)) (c1 : w.cell? ⟨kb, 1, none⟩ = some (.int .i64 k.dst)) (c2 : w.cell? ⟨kb, 2, none⟩ = some (.int .i64 k.proto)) (c3 : w.cell? ⟨kb, 3, none⟩ = some (.int .i64 k.port)) :
    Calls Tryz.prog 40 #[.agg #[.int .i64 p.1, .int .i64 p.2], .pointer (some ⟨tc, 0, none⟩), .pointer (some ⟨kb, 0, none⟩)] w fun e w' => e = .returned (.bool (decd c p.1 p.2 k)) ∧ Below w.heap.size w w' := by
  obtain ⟨r, vs, a, cc, m0, hM, ⟨n0, hs⟩, hr⟩ := h.look p.1 p.2 hm
  obtain ⟨L, hL, hT⟩ := h.tab p.1 p.2 hm
  obtain ⟨n, rw', h1, h2, h3⟩ := tab_decides hc hT k hk
  have hok := tab_ok hc hT
  rw [← hL] at h1 h2 hok
  have l0 := cell_lt m0
  have l1 := cell_lt t0
  have l2 := cell_lt c0
  have hlk := fun w1 h1 => look_place1 w1 r vs h1 p.1 p.2
  rw [hs] at hlk
  have hM1 : MapAt (w.alloc (.cells #[.int .i64 p.1, .int .i64 p.2] 99)) r vs := by
    have hr : r < w.heap.size := (Array.getElem?_eq_some_iff.1 hM).1
    exact (Below.heap_alloc _ _ _ hr).trans hM
  have hlk := fun u => hlk _ (show MapAt ((w.alloc (.cells #[.int .i64 p.1, .int .i64 p.2] 99)).grow u) r vs from (World.heap_grow _ u r (Array.getElem?_eq_some_iff.1 hM1).1).trans hM1)
  have hC : Below w.heap.size w (w.alloc (.cells #[.int .i64 p.1, .int .i64 p.2] 99)) := (Below.refl _ w).alloc (Nat.le_refl _) _
  have HR := hid hr
  have H1 := hid h1
  have H2 := hid h2
  have H3 := hid h3
  have HOK := hid hok
  have HK := hid hk
  clear h hM hs hm hM1 hr h1 h2 h3 hok hL hT hk
  generalize T (p.1, p.2) = l at *
  have HD := hid (show ∀ (W : World), rdRows W.heap.size W (some a) l → Calls Tryz.prog 37 #[.slice (some a) l.length cc, .agg #[.int .i64 k.src, .int .i64 k.dst, .int .i64 k.proto, .int .i64 k.port]] W fun e w' => e = .returned (.tuple #[.bool (decd c p.1 p.2 k), .int .i64 n]) ∧ Below W.heap.size W w' from fun W hW => by
    have := decides_any l k n rw' (some a) cc W hW HOK.out HK.out H1.out H2.out
    rw [H3.out] at this
    exact this)
  go_enter Tryz.func40, Tryz.ntmps40
  go_wp2
  refine wp_region_grow (by kernel_rfl) (by kernel_rfl) ?_
  repeat (go_big_quiet_step (first
    | (go_at_call 37; exact Calls.grow_of (HD.out _ (rdRows.to (rdRows.to HR.out hC) (World.below_grow _ _))))))
  refine wpQuiet_nil ?_
  intro w1 hb1
  obtain ⟨hc1, hf1⟩ := bcell hb1
  have hz1 := hb_lt hb1
  go_wp2
  go_ret
  exact ⟨rfl, (by repeat (first | exact Below.refl _ _ | assumption | apply Ext.alloc | apply Ext.drewN | apply Ext.drew | refine Ext.trans ?_ (by assumption)))⟩
theorem decd_may {c : DClu} (hc : cluOk c) (k : DPkt) : (plist.all fun p => decd c p.1 p.2 k) = (may c 1 k k.src k.dst && may c 2 k k.dst k.src) := by
  have h1 := decd_all hc k 1
  have h2 := decd_all hc k 2
  show _ = (may c 1 k (nearOf 1 k) (farOf 1 k) && may c 2 k (nearOf 2 k) (farOf 2 k))
  rw [← h1, ← h2]
  simp only [plist, List.all_cons, List.all_nil, Bool.and_true]
  cases decd c 0 1 k <;> cases decd c 1 1 k <;> cases decd c 2 1 k <;> cases decd c 3 1 k <;> simp [Bool.and_assoc]
set_option maxHeartbeats 1000000 in
theorem admits_any (c : DClu) (T : Int × Int → List DRow) (tb : Nat) (k : DPkt) (w : World) (h : TabsAs w.heap.size w tb c T) (hk : pktOk k = true) (hc : cluOk c) :
    Calls Tryz.prog 20 #[.pointer (some ⟨tb, 0, none⟩), .agg #[.int .i64 k.src, .int .i64 k.dst, .int .i64 k.proto, .int .i64 k.port]] w fun e w' => e = .returned (.tuple #[.bool (may c 1 k k.src k.dst && may c 2 k k.dst k.src), .int .i64 0]) ∧ Below w.heap.size w w' := by
  have HT := hid h
  have HK := hid hk
  have HC := hid hc
  have HM := hid (decd_may hc k)
  have hmf := mkFunc
  clear h hk hc
  go_enter Tryz.func20, Tryz.ntmps20
  go_wp2_with (first
    | (go_at_call 36; refine (pktRight_any k _).mono ?_; rw [HK.out]; rintro e w1 ⟨rfl, hb1⟩; obtain ⟨hc1, hf1⟩ := bcell hb1; have hz1 := hb_lt hb1)
    | (go_at_call 39; refine (places_any _).mono ?_; rintro e w2 ⟨⟨la, lc, rfl, hl2⟩, hb2⟩; have HL := hid hl2; clear hl2)
    | (go_at_call 38; go_must (refine (allPl (fun p => decd c p.1 p.2 k) _ _ _ _ _ _ HL.out (fun x w3 hx hb3 => admClo c T tb x k _ _ w3 (HT.out.to (by repeat (first | exact Below.refl _ _ | assumption | apply Ext.alloc | apply Ext.drewN | apply Ext.drew | refine Ext.trans ?_ (by assumption)))) hx HK.out HC.out (cell_to (cell_to (cell_to (by simp [go_sem]) hb1) hb2) hb3) (cell_to (cell_to (cell_to (by simp [go_sem]) hb1) hb2) hb3) (cell_to (cell_to (cell_to (by simp [go_sem]) hb1) hb2) hb3) (cell_to (cell_to (cell_to (by simp [go_sem]) hb1) hb2) hb3) (cell_to (cell_to (cell_to (by simp [go_sem]) hb1) hb2) hb3))).mono ?_); rw [HM.out]; rintro e w4 ⟨rfl, hb4⟩))
  go_ret2
  exact ⟨rfl, (by repeat (first | exact Below.refl _ _ | assumption | apply Ext.alloc | apply Ext.drewN | apply Ext.drew | refine Ext.trans ?_ (by assumption)))⟩
end Go.Proofs.YtmkjlhplgcifiaaGreat
