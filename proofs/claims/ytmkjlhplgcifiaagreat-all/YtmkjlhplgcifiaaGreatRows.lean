/-
  No cell of these rows narrows 'for every input' (looked for: loops, veiled, ifaces, maps, wideKeys, modest, calm, conditions, laid).
  DERIVED. THE GIVEN ROWS OF THIS SEAT. 8 by the template 'for every input the law returns true; each argument reads behind the call as it read before'; 0 by the template 'total and deterministic' (their statements: YtmkjlhplgcifiaaGreatTotals.lean).
  GIVEN WITH THE SEED: the statements are not yours to turn. If you find one false, say at which input.
  Laid BY PROGRAM, IN A SANDBOX (cutbox-rows.mjs): the forced cells as the released guide's own fill.sh prints them over the translation 4169ac45ed88875c… (all of the seat's roots in one cut). By AI agents, Wed Nov 11 2026. No macro, syntax, notation, axiom, sorry.
-/
import Derived.Test.YtmkjlhplgcifiaaGreatChecked
import GoSem.Claim
import GoSem.ClaimJoined
import GoSem.ClaimMapViews
import Derived.JoinedTies
import Derived.KernelRfl
namespace Go.Proofs.YtmkjlhplgcifiaaGreat
/- THE CELL 'sum', in the pinned program and in every row, IS THE sha256 OF THE DUMP (.gsa) THAT YtmkjlhplgcifiaaGreatProg.lean LOADS. Nothing in Lean hashes anything: it is a label: what it is worth is what the hold of that sum in a sandbox is worth. -/
noncomputable def Tryz.pinned : Pinned := { name := "ytmkjlhplgcifiaagreat", sum := "4169ac45ed88875c78de6c02018bb0103f0e9416ec5c43d4099fe445d88f7072", checked := Tryz.checked }
namespace Rows
def none {H : Type} : Left H := { results := [], args := [] }

/-- 'palisadelaw.Compiled': WHATEVER THE INPUT: true; the input reads as it did. -/
def compiledSpec : ChangeSpec := { name := "compiled", fn := fun _ => fun
  | [d] => { results := [.lit (.bool true)], args := [d] }
  | _ => none }
def compiledRow : OpenClaim := { program := "ytmkjlhplgcifiaagreat", sum := "4169ac45ed88875c78de6c02018bb0103f0e9416ec5c43d4099fe445d88f7072", func := "palisade/palisadelaw.Compiled", spec := "compiled", unfollowed := true, recurses := true, plainKeys := false, apart := false }
def CompiledSaid : Prop := compiledRow.holds Tryz.pinned (OpenSpec.ofChange compiledSpec)

/-- ITS FALSE NEIGHBOUR: 'it returns false'. Refute it at one input. -/
def compiledWrong : ChangeSpec := { name := "compiled", fn := fun _ => fun
  | [d] => { results := [.lit (.bool false)], args := [d] }
  | _ => none }
def CompiledWrongFalsely : Prop := compiledRow.holds Tryz.pinned (OpenSpec.ofChange compiledWrong)

/-- 'palisadelaw.Decided': WHATEVER THE INPUT: true; the input reads as it did. -/
def decidedSpec : ChangeSpec := { name := "decided", fn := fun _ => fun
  | [d] => { results := [.lit (.bool true)], args := [d] }
  | _ => none }
def decidedRow : OpenClaim := { program := "ytmkjlhplgcifiaagreat", sum := "4169ac45ed88875c78de6c02018bb0103f0e9416ec5c43d4099fe445d88f7072", func := "palisade/palisadelaw.Decided", spec := "decided", unfollowed := true, recurses := true, plainKeys := false, apart := false }
def DecidedSaid : Prop := decidedRow.holds Tryz.pinned (OpenSpec.ofChange decidedSpec)

/-- ITS FALSE NEIGHBOUR: 'it returns false'. Refute it at one input. -/
def decidedWrong : ChangeSpec := { name := "decided", fn := fun _ => fun
  | [d] => { results := [.lit (.bool false)], args := [d] }
  | _ => none }
def DecidedWrongFalsely : Prop := decidedRow.holds Tryz.pinned (OpenSpec.ofChange decidedWrong)

/-- 'palisadekeep.Faithful': WHATEVER THE INPUT: true; the input reads as it did. -/
def faithfulSpec : ChangeSpec := { name := "faithful", fn := fun _ => fun
  | [d1, d2] => { results := [.lit (.bool true)], args := [d1, d2] }
  | _ => none }
def faithfulRow : OpenClaim := { program := "ytmkjlhplgcifiaagreat", sum := "4169ac45ed88875c78de6c02018bb0103f0e9416ec5c43d4099fe445d88f7072", func := "palisade/palisadekeep.Faithful", spec := "faithful", unfollowed := true, recurses := true, plainKeys := false, apart := false }
def FaithfulSaid : Prop := faithfulRow.holds Tryz.pinned (OpenSpec.ofChange faithfulSpec)

/-- ITS FALSE NEIGHBOUR: 'it returns false'. Refute it at one input. -/
def faithfulWrong : ChangeSpec := { name := "faithful", fn := fun _ => fun
  | [d1, d2] => { results := [.lit (.bool false)], args := [d1, d2] }
  | _ => none }
def FaithfulWrongFalsely : Prop := faithfulRow.holds Tryz.pinned (OpenSpec.ofChange faithfulWrong)

/-- 'palisadekeep.Shuffled': WHATEVER THE INPUT: true; the input reads as it did. -/
def shuffledSpec : ChangeSpec := { name := "shuffled", fn := fun _ => fun
  | [d1, d2] => { results := [.lit (.bool true)], args := [d1, d2] }
  | _ => none }
def shuffledRow : OpenClaim := { program := "ytmkjlhplgcifiaagreat", sum := "4169ac45ed88875c78de6c02018bb0103f0e9416ec5c43d4099fe445d88f7072", func := "palisade/palisadekeep.Shuffled", spec := "shuffled", unfollowed := true, recurses := true, plainKeys := false, apart := false }
def ShuffledSaid : Prop := shuffledRow.holds Tryz.pinned (OpenSpec.ofChange shuffledSpec)

/-- ITS FALSE NEIGHBOUR: 'it returns false'. Refute it at one input. -/
def shuffledWrong : ChangeSpec := { name := "shuffled", fn := fun _ => fun
  | [d1, d2] => { results := [.lit (.bool false)], args := [d1, d2] }
  | _ => none }
def ShuffledWrongFalsely : Prop := shuffledRow.holds Tryz.pinned (OpenSpec.ofChange shuffledWrong)

/-- 'palisadekeep.Grown': WHATEVER THE INPUT: true; the input reads as it did. -/
def grownSpec : ChangeSpec := { name := "grown", fn := fun _ => fun
  | [d1, d2, d3, d4, d5] => { results := [.lit (.bool true)], args := [d1, d2, d3, d4, d5] }
  | _ => none }
def grownRow : OpenClaim := { program := "ytmkjlhplgcifiaagreat", sum := "4169ac45ed88875c78de6c02018bb0103f0e9416ec5c43d4099fe445d88f7072", func := "palisade/palisadekeep.Grown", spec := "grown", unfollowed := true, recurses := true, plainKeys := false, apart := false }
def GrownSaid : Prop := grownRow.holds Tryz.pinned (OpenSpec.ofChange grownSpec)

/-- ITS FALSE NEIGHBOUR: 'it returns false'. Refute it at one input. -/
def grownWrong : ChangeSpec := { name := "grown", fn := fun _ => fun
  | [d1, d2, d3, d4, d5] => { results := [.lit (.bool false)], args := [d1, d2, d3, d4, d5] }
  | _ => none }
def GrownWrongFalsely : Prop := grownRow.holds Tryz.pinned (OpenSpec.ofChange grownWrong)

/-- 'palisadekeep.Isolated': WHATEVER THE INPUT: true; the input reads as it did. -/
def isolatedSpec : ChangeSpec := { name := "isolated", fn := fun _ => fun
  | [d1, d2, d3, d4] => { results := [.lit (.bool true)], args := [d1, d2, d3, d4] }
  | _ => none }
def isolatedRow : OpenClaim := { program := "ytmkjlhplgcifiaagreat", sum := "4169ac45ed88875c78de6c02018bb0103f0e9416ec5c43d4099fe445d88f7072", func := "palisade/palisadekeep.Isolated", spec := "isolated", unfollowed := true, recurses := true, plainKeys := false, apart := false }
def IsolatedSaid : Prop := isolatedRow.holds Tryz.pinned (OpenSpec.ofChange isolatedSpec)

/-- ITS FALSE NEIGHBOUR: 'it returns false'. Refute it at one input. -/
def isolatedWrong : ChangeSpec := { name := "isolated", fn := fun _ => fun
  | [d1, d2, d3, d4] => { results := [.lit (.bool false)], args := [d1, d2, d3, d4] }
  | _ => none }
def IsolatedWrongFalsely : Prop := isolatedRow.holds Tryz.pinned (OpenSpec.ofChange isolatedWrong)

/-- 'palisadelaw.All': WHATEVER THE INPUT: true; the input reads as it did. -/
def allSpec : ChangeSpec := { name := "all", fn := fun _ => fun
  | [d] => { results := [.lit (.bool true)], args := [d] }
  | _ => none }
def allRow : OpenClaim := { program := "ytmkjlhplgcifiaagreat", sum := "4169ac45ed88875c78de6c02018bb0103f0e9416ec5c43d4099fe445d88f7072", func := "palisade/palisadelaw.All", spec := "all", unfollowed := true, recurses := true, plainKeys := false, apart := false }
def AllSaid : Prop := allRow.holds Tryz.pinned (OpenSpec.ofChange allSpec)

/-- ITS FALSE NEIGHBOUR: 'it returns false'. Refute it at one input. -/
def allWrong : ChangeSpec := { name := "all", fn := fun _ => fun
  | [d] => { results := [.lit (.bool false)], args := [d] }
  | _ => none }
def AllWrongFalsely : Prop := allRow.holds Tryz.pinned (OpenSpec.ofChange allWrong)

/-- 'palisadekeep.Followed': WHATEVER THE INPUT: true; the input reads as it did. -/
def followedSpec : ChangeSpec := { name := "followed", fn := fun _ => fun
  | [d1, d2, d3, d4] => { results := [.lit (.bool true)], args := [d1, d2, d3, d4] }
  | _ => none }
def followedRow : OpenClaim := { program := "ytmkjlhplgcifiaagreat", sum := "4169ac45ed88875c78de6c02018bb0103f0e9416ec5c43d4099fe445d88f7072", func := "palisade/palisadekeep.Followed", spec := "followed", unfollowed := true, recurses := true, plainKeys := false, apart := false }
def FollowedSaid : Prop := followedRow.holds Tryz.pinned (OpenSpec.ofChange followedSpec)

/-- ITS FALSE NEIGHBOUR: 'it returns false'. Refute it at one input. -/
def followedWrong : ChangeSpec := { name := "followed", fn := fun _ => fun
  | [d1, d2, d3, d4] => { results := [.lit (.bool false)], args := [d1, d2, d3, d4] }
  | _ => none }
def FollowedWrongFalsely : Prop := followedRow.holds Tryz.pinned (OpenSpec.ofChange followedWrong)

/- THE SECOND FORM. 'bulk': how many values and letters a reading holds, each counted each time it is reached (what is shared counts as often as it is met; a slice's spare places count too). A statement '..UptoSaid' is the law's where the arguments, and the package variables that the reading takes, are together of bulk at most 1048576: NARROWER than '..Said'. Prove '..Said' where nothing that the law and all that it calls make is longer than what came in: it says more and counts as full. Else prove '..UptoSaid'. A law counts once. -/
mutual
def uptoBulk {H : Type} : DataW H → Nat
  | .lit (.string bytes) => bytes.length + 1
  | .lit _ => 1
  | .nil => 1
  | .ptr d => uptoBulk d + 1
  | .slice elems spare => uptoBulkAll elems + uptoBulkAll spare + 1
  | .agg parts => uptoBulkAll parts + 1
  | .iface _ d => uptoBulk d + 1
  | .map entries => uptoBulkEntries entries + 1
  | .held _ => 1
def uptoBulkAll {H : Type} : List (DataW H) → Nat
  | [] => 0
  | d :: r => uptoBulk d + uptoBulkAll r
def uptoBulkEntries {H : Type} : List (Lit × DataW H) → Nat
  | [] => 0
  | x :: r => uptoBulkEntry x + uptoBulkEntries r
def uptoBulkEntry {H : Type} : Lit × DataW H → Nat
  | (.string bytes, d) => bytes.length + uptoBulk d + 1
  | (_, d) => uptoBulk d + 1
 end
def uptoSmall : (H : Type) → List (DataW H) → Bool := fun _ ds => decide (uptoBulkAll ds ≤ 1048576)
def OpenSpec.upto (s : _root_.Go.ChangeSpec) : _root_.Go.OpenSpec := { _root_.Go.OpenSpec.ofChange s with cond := some uptoSmall }

/-- 'palisadelaw.Compiled', WHERE WHAT IT READS IS OF BULK AT MOST 1048576: true; the input reads as it did. -/
def compiledUptoRow : OpenClaim := { program := "ytmkjlhplgcifiaagreat", sum := "4169ac45ed88875c78de6c02018bb0103f0e9416ec5c43d4099fe445d88f7072", func := "palisade/palisadelaw.Compiled", spec := "compiled", unfollowed := true, recurses := true, plainKeys := false, apart := false, narrowed := true }
def CompiledUptoSaid : Prop := compiledUptoRow.holds Tryz.pinned (OpenSpec.upto compiledSpec)

/-- 'palisadelaw.Decided', WHERE WHAT IT READS IS OF BULK AT MOST 1048576: true; the input reads as it did. -/
def decidedUptoRow : OpenClaim := { program := "ytmkjlhplgcifiaagreat", sum := "4169ac45ed88875c78de6c02018bb0103f0e9416ec5c43d4099fe445d88f7072", func := "palisade/palisadelaw.Decided", spec := "decided", unfollowed := true, recurses := true, plainKeys := false, apart := false, narrowed := true }
def DecidedUptoSaid : Prop := decidedUptoRow.holds Tryz.pinned (OpenSpec.upto decidedSpec)

/-- 'palisadekeep.Faithful', WHERE WHAT IT READS IS OF BULK AT MOST 1048576: true; the input reads as it did. -/
def faithfulUptoRow : OpenClaim := { program := "ytmkjlhplgcifiaagreat", sum := "4169ac45ed88875c78de6c02018bb0103f0e9416ec5c43d4099fe445d88f7072", func := "palisade/palisadekeep.Faithful", spec := "faithful", unfollowed := true, recurses := true, plainKeys := false, apart := false, narrowed := true }
def FaithfulUptoSaid : Prop := faithfulUptoRow.holds Tryz.pinned (OpenSpec.upto faithfulSpec)

/-- 'palisadekeep.Shuffled', WHERE WHAT IT READS IS OF BULK AT MOST 1048576: true; the input reads as it did. -/
def shuffledUptoRow : OpenClaim := { program := "ytmkjlhplgcifiaagreat", sum := "4169ac45ed88875c78de6c02018bb0103f0e9416ec5c43d4099fe445d88f7072", func := "palisade/palisadekeep.Shuffled", spec := "shuffled", unfollowed := true, recurses := true, plainKeys := false, apart := false, narrowed := true }
def ShuffledUptoSaid : Prop := shuffledUptoRow.holds Tryz.pinned (OpenSpec.upto shuffledSpec)

/-- 'palisadekeep.Grown', WHERE WHAT IT READS IS OF BULK AT MOST 1048576: true; the input reads as it did. -/
def grownUptoRow : OpenClaim := { program := "ytmkjlhplgcifiaagreat", sum := "4169ac45ed88875c78de6c02018bb0103f0e9416ec5c43d4099fe445d88f7072", func := "palisade/palisadekeep.Grown", spec := "grown", unfollowed := true, recurses := true, plainKeys := false, apart := false, narrowed := true }
def GrownUptoSaid : Prop := grownUptoRow.holds Tryz.pinned (OpenSpec.upto grownSpec)

/-- 'palisadekeep.Isolated', WHERE WHAT IT READS IS OF BULK AT MOST 1048576: true; the input reads as it did. -/
def isolatedUptoRow : OpenClaim := { program := "ytmkjlhplgcifiaagreat", sum := "4169ac45ed88875c78de6c02018bb0103f0e9416ec5c43d4099fe445d88f7072", func := "palisade/palisadekeep.Isolated", spec := "isolated", unfollowed := true, recurses := true, plainKeys := false, apart := false, narrowed := true }
def IsolatedUptoSaid : Prop := isolatedUptoRow.holds Tryz.pinned (OpenSpec.upto isolatedSpec)

/-- 'palisadelaw.All', WHERE WHAT IT READS IS OF BULK AT MOST 1048576: true; the input reads as it did. -/
def allUptoRow : OpenClaim := { program := "ytmkjlhplgcifiaagreat", sum := "4169ac45ed88875c78de6c02018bb0103f0e9416ec5c43d4099fe445d88f7072", func := "palisade/palisadelaw.All", spec := "all", unfollowed := true, recurses := true, plainKeys := false, apart := false, narrowed := true }
def AllUptoSaid : Prop := allUptoRow.holds Tryz.pinned (OpenSpec.upto allSpec)

/-- 'palisadekeep.Followed', WHERE WHAT IT READS IS OF BULK AT MOST 1048576: true; the input reads as it did. -/
def followedUptoRow : OpenClaim := { program := "ytmkjlhplgcifiaagreat", sum := "4169ac45ed88875c78de6c02018bb0103f0e9416ec5c43d4099fe445d88f7072", func := "palisade/palisadekeep.Followed", spec := "followed", unfollowed := true, recurses := true, plainKeys := false, apart := false, narrowed := true }
def FollowedUptoSaid : Prop := followedUptoRow.holds Tryz.pinned (OpenSpec.upto followedSpec)

end Rows
end Go.Proofs.YtmkjlhplgcifiaaGreat
