/-
  No cell of these rows narrows 'for every input' (looked for: loops, veiled, ifaces, maps, wideKeys, modest, calm, conditions, laid).
  DERIVED. THE GIVEN ROWS OF THIS SEAT. 5 by the template 'for every input the law returns true; each argument reads behind the call as it read before'; 0 by the template 'total and deterministic' (their statements: YtjbegiaceekgcaaTotals.lean).
  GIVEN WITH THE SEED: the statements are not yours to turn. If you find one false, say at which input.
  Laid BY PROGRAM, IN A SANDBOX (cutbox-rows.mjs): the forced cells as the released guide's own fill.sh prints them over the translation 32a0e3f09fb33c90… (all of the seat's roots in one cut). By AI agents, Wed Nov 11 2026. No macro, syntax, notation, axiom, sorry.
-/
import Derived.Test.YtjbegiaceekgcaaChecked
import GoSem.Claim
import GoSem.ClaimJoined
import GoSem.ClaimMapViews
import Derived.JoinedTies
import Derived.KernelRfl
namespace Go.Proofs.Ytjbegiaceekgcaa
/- THE CELL 'sum', in the pinned program and in every row, IS THE sha256 OF THE DUMP (.gsa) THAT YtjbegiaceekgcaaProg.lean LOADS. Nothing in Lean hashes anything: it is a label: what it is worth is what the hold of that sum in a sandbox is worth. -/
noncomputable def Try.pinned : Pinned := { name := "ytjbegiaceekgcaa", sum := "32a0e3f09fb33c900b96ed451468c57e0f15808f0fa17577b0dd0beeee699467", checked := Try.checked }
namespace Rows
def none {H : Type} : Left H := { results := [], args := [] }

/-- 'guidevanelaw07.SequencePlans': WHATEVER THE INPUT: true; the input reads as it did. -/
def sequencePlansSpec : ChangeSpec := { name := "sequencePlans", fn := fun _ => fun
  | [d1, d2, d3] => { results := [.lit (.bool true)], args := [d1, d2, d3] }
  | _ => none }
def sequencePlansRow : OpenClaim := { program := "ytjbegiaceekgcaa", sum := "32a0e3f09fb33c900b96ed451468c57e0f15808f0fa17577b0dd0beeee699467", func := "guidevane/guidevanelaw07.SequencePlans", spec := "sequencePlans", unfollowed := true, recurses := true, plainKeys := false, apart := false }
def SequencePlansSaid : Prop := sequencePlansRow.holds Try.pinned (OpenSpec.ofChange sequencePlansSpec)

/-- ITS FALSE NEIGHBOUR: 'it returns false'. Refute it at one input. -/
def sequencePlansWrong : ChangeSpec := { name := "sequencePlans", fn := fun _ => fun
  | [d1, d2, d3] => { results := [.lit (.bool false)], args := [d1, d2, d3] }
  | _ => none }
def SequencePlansWrongFalsely : Prop := sequencePlansRow.holds Try.pinned (OpenSpec.ofChange sequencePlansWrong)

/-- 'guidevanelaw07.SequenceTurns': WHATEVER THE INPUT: true; the input reads as it did. -/
def sequenceTurnsSpec : ChangeSpec := { name := "sequenceTurns", fn := fun _ => fun
  | [d1, d2, d3] => { results := [.lit (.bool true)], args := [d1, d2, d3] }
  | _ => none }
def sequenceTurnsRow : OpenClaim := { program := "ytjbegiaceekgcaa", sum := "32a0e3f09fb33c900b96ed451468c57e0f15808f0fa17577b0dd0beeee699467", func := "guidevane/guidevanelaw07.SequenceTurns", spec := "sequenceTurns", unfollowed := true, recurses := true, plainKeys := false, apart := false }
def SequenceTurnsSaid : Prop := sequenceTurnsRow.holds Try.pinned (OpenSpec.ofChange sequenceTurnsSpec)

/-- ITS FALSE NEIGHBOUR: 'it returns false'. Refute it at one input. -/
def sequenceTurnsWrong : ChangeSpec := { name := "sequenceTurns", fn := fun _ => fun
  | [d1, d2, d3] => { results := [.lit (.bool false)], args := [d1, d2, d3] }
  | _ => none }
def SequenceTurnsWrongFalsely : Prop := sequenceTurnsRow.holds Try.pinned (OpenSpec.ofChange sequenceTurnsWrong)

/-- 'guidevanelaw07.SequenceNoFaster': WHATEVER THE INPUT: true; the input reads as it did. -/
def sequenceNoFasterSpec : ChangeSpec := { name := "sequenceNoFaster", fn := fun _ => fun
  | [d1, d2, d3] => { results := [.lit (.bool true)], args := [d1, d2, d3] }
  | _ => none }
def sequenceNoFasterRow : OpenClaim := { program := "ytjbegiaceekgcaa", sum := "32a0e3f09fb33c900b96ed451468c57e0f15808f0fa17577b0dd0beeee699467", func := "guidevane/guidevanelaw07.SequenceNoFaster", spec := "sequenceNoFaster", unfollowed := true, recurses := true, plainKeys := false, apart := false }
def SequenceNoFasterSaid : Prop := sequenceNoFasterRow.holds Try.pinned (OpenSpec.ofChange sequenceNoFasterSpec)

/-- ITS FALSE NEIGHBOUR: 'it returns false'. Refute it at one input. -/
def sequenceNoFasterWrong : ChangeSpec := { name := "sequenceNoFaster", fn := fun _ => fun
  | [d1, d2, d3] => { results := [.lit (.bool false)], args := [d1, d2, d3] }
  | _ => none }
def SequenceNoFasterWrongFalsely : Prop := sequenceNoFasterRow.holds Try.pinned (OpenSpec.ofChange sequenceNoFasterWrong)

/-- 'guidevanelaw07.SequenceVotes': WHATEVER THE INPUT: true; the input reads as it did. -/
def sequenceVotesSpec : ChangeSpec := { name := "sequenceVotes", fn := fun _ => fun
  | [d1, d2] => { results := [.lit (.bool true)], args := [d1, d2] }
  | _ => none }
def sequenceVotesRow : OpenClaim := { program := "ytjbegiaceekgcaa", sum := "32a0e3f09fb33c900b96ed451468c57e0f15808f0fa17577b0dd0beeee699467", func := "guidevane/guidevanelaw07.SequenceVotes", spec := "sequenceVotes", unfollowed := true, recurses := true, plainKeys := false, apart := false }
def SequenceVotesSaid : Prop := sequenceVotesRow.holds Try.pinned (OpenSpec.ofChange sequenceVotesSpec)

/-- ITS FALSE NEIGHBOUR: 'it returns false'. Refute it at one input. -/
def sequenceVotesWrong : ChangeSpec := { name := "sequenceVotes", fn := fun _ => fun
  | [d1, d2] => { results := [.lit (.bool false)], args := [d1, d2] }
  | _ => none }
def SequenceVotesWrongFalsely : Prop := sequenceVotesRow.holds Try.pinned (OpenSpec.ofChange sequenceVotesWrong)

/-- 'guidevanelaw07.SequenceHalls': WHATEVER THE INPUT: true; the input reads as it did. -/
def sequenceHallsSpec : ChangeSpec := { name := "sequenceHalls", fn := fun _ => fun
  | [d1, d2, d3] => { results := [.lit (.bool true)], args := [d1, d2, d3] }
  | _ => none }
def sequenceHallsRow : OpenClaim := { program := "ytjbegiaceekgcaa", sum := "32a0e3f09fb33c900b96ed451468c57e0f15808f0fa17577b0dd0beeee699467", func := "guidevane/guidevanelaw07.SequenceHalls", spec := "sequenceHalls", unfollowed := true, recurses := true, plainKeys := false, apart := false }
def SequenceHallsSaid : Prop := sequenceHallsRow.holds Try.pinned (OpenSpec.ofChange sequenceHallsSpec)

/-- ITS FALSE NEIGHBOUR: 'it returns false'. Refute it at one input. -/
def sequenceHallsWrong : ChangeSpec := { name := "sequenceHalls", fn := fun _ => fun
  | [d1, d2, d3] => { results := [.lit (.bool false)], args := [d1, d2, d3] }
  | _ => none }
def SequenceHallsWrongFalsely : Prop := sequenceHallsRow.holds Try.pinned (OpenSpec.ofChange sequenceHallsWrong)

/- THE SECOND FORM. 'bulk': how many values and letters a reading holds, each counted each time it is reached (what is shared counts as often as it is met; a slice's spare places count too). A statement '..UptoSaid' is the law's where the arguments, and the package variables that the reading takes, are together of bulk at most 1048576: NARROWER than '..Said'. Prove '..Said' where nothing that the law and all that it calls make is longer than what came in: it says more and counts as full. Else prove '..UptoSaid'. A law counts once. -/
mutual
def uptoBulk {H : Type} : DataW H → Nat
  | .lit (.string bytes) => bytes.length + 1
  | .lit _ => 1
  | .nil => 1
  | .ptr d => uptoBulk d + 1
  | .slice elems spare => uptoBulkAll elems + uptoBulkAll spare + 1
  | .agg parts => uptoBulkAll parts + 1
  | .iface _ d => uptoBulk d + 1
  | .map entries => uptoBulkEntries entries + 1
  | .held _ => 1
def uptoBulkAll {H : Type} : List (DataW H) → Nat
  | [] => 0
  | d :: r => uptoBulk d + uptoBulkAll r
def uptoBulkEntries {H : Type} : List (Lit × DataW H) → Nat
  | [] => 0
  | x :: r => uptoBulkEntry x + uptoBulkEntries r
def uptoBulkEntry {H : Type} : Lit × DataW H → Nat
  | (.string bytes, d) => bytes.length + uptoBulk d + 1
  | (_, d) => uptoBulk d + 1
 end
def uptoSmall : (H : Type) → List (DataW H) → Bool := fun _ ds => decide (uptoBulkAll ds ≤ 1048576)
def OpenSpec.upto (s : _root_.Go.ChangeSpec) : _root_.Go.OpenSpec := { _root_.Go.OpenSpec.ofChange s with cond := some uptoSmall }

/-- 'guidevanelaw07.SequencePlans', WHERE WHAT IT READS IS OF BULK AT MOST 1048576: true; the input reads as it did. -/
def sequencePlansUptoRow : OpenClaim := { program := "ytjbegiaceekgcaa", sum := "32a0e3f09fb33c900b96ed451468c57e0f15808f0fa17577b0dd0beeee699467", func := "guidevane/guidevanelaw07.SequencePlans", spec := "sequencePlans", unfollowed := true, recurses := true, plainKeys := false, apart := false, narrowed := true }
def SequencePlansUptoSaid : Prop := sequencePlansUptoRow.holds Try.pinned (OpenSpec.upto sequencePlansSpec)

/-- 'guidevanelaw07.SequenceTurns', WHERE WHAT IT READS IS OF BULK AT MOST 1048576: true; the input reads as it did. -/
def sequenceTurnsUptoRow : OpenClaim := { program := "ytjbegiaceekgcaa", sum := "32a0e3f09fb33c900b96ed451468c57e0f15808f0fa17577b0dd0beeee699467", func := "guidevane/guidevanelaw07.SequenceTurns", spec := "sequenceTurns", unfollowed := true, recurses := true, plainKeys := false, apart := false, narrowed := true }
def SequenceTurnsUptoSaid : Prop := sequenceTurnsUptoRow.holds Try.pinned (OpenSpec.upto sequenceTurnsSpec)

/-- 'guidevanelaw07.SequenceNoFaster', WHERE WHAT IT READS IS OF BULK AT MOST 1048576: true; the input reads as it did. -/
def sequenceNoFasterUptoRow : OpenClaim := { program := "ytjbegiaceekgcaa", sum := "32a0e3f09fb33c900b96ed451468c57e0f15808f0fa17577b0dd0beeee699467", func := "guidevane/guidevanelaw07.SequenceNoFaster", spec := "sequenceNoFaster", unfollowed := true, recurses := true, plainKeys := false, apart := false, narrowed := true }
def SequenceNoFasterUptoSaid : Prop := sequenceNoFasterUptoRow.holds Try.pinned (OpenSpec.upto sequenceNoFasterSpec)

/-- 'guidevanelaw07.SequenceVotes', WHERE WHAT IT READS IS OF BULK AT MOST 1048576: true; the input reads as it did. -/
def sequenceVotesUptoRow : OpenClaim := { program := "ytjbegiaceekgcaa", sum := "32a0e3f09fb33c900b96ed451468c57e0f15808f0fa17577b0dd0beeee699467", func := "guidevane/guidevanelaw07.SequenceVotes", spec := "sequenceVotes", unfollowed := true, recurses := true, plainKeys := false, apart := false, narrowed := true }
def SequenceVotesUptoSaid : Prop := sequenceVotesUptoRow.holds Try.pinned (OpenSpec.upto sequenceVotesSpec)

/-- 'guidevanelaw07.SequenceHalls', WHERE WHAT IT READS IS OF BULK AT MOST 1048576: true; the input reads as it did. -/
def sequenceHallsUptoRow : OpenClaim := { program := "ytjbegiaceekgcaa", sum := "32a0e3f09fb33c900b96ed451468c57e0f15808f0fa17577b0dd0beeee699467", func := "guidevane/guidevanelaw07.SequenceHalls", spec := "sequenceHalls", unfollowed := true, recurses := true, plainKeys := false, apart := false, narrowed := true }
def SequenceHallsUptoSaid : Prop := sequenceHallsUptoRow.holds Try.pinned (OpenSpec.upto sequenceHallsSpec)

end Rows
end Go.Proofs.Ytjbegiaceekgcaa
