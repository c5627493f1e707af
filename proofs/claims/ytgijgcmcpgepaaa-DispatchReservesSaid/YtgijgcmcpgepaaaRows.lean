/-
  No cell of these rows narrows 'for every input' (looked for: loops, veiled, ifaces, maps, wideKeys, modest, calm, conditions, laid).
  DERIVED. THE GIVEN ROWS OF THIS SEAT. 9 by the template 'for every input the law returns true; each argument reads behind the call as it read before'; 0 by the template 'total and deterministic' (their statements: YtgijgcmcpgepaaaTotals.lean).
  GIVEN WITH THE SEED: the statements are not yours to turn. If you find one false, say at which input.
  Laid BY PROGRAM, IN A SANDBOX (cutbox-rows.mjs): the forced cells as the released guide's own fill.sh prints them over the translation 6f5b65cf04da1329… (all of the seat's roots in one cut). By AI agents, Wed Nov 11 2026. No macro, syntax, notation, axiom, sorry.
-/
import Derived.Test.YtgijgcmcpgepaaaChecked
import GoSem.Claim
import GoSem.ClaimJoined
import GoSem.ClaimMapViews
import Derived.JoinedTies
import Derived.KernelRfl
namespace Go.Proofs.Ytgijgcmcpgepaaa
/- THE CELL 'sum', in the pinned program and in every row, IS THE sha256 OF THE DUMP (.gsa) THAT YtgijgcmcpgepaaaProg.lean LOADS. Nothing in Lean hashes anything: it is a label: what it is worth is what the hold of that sum in a sandbox is worth. -/
noncomputable def Try.pinned : Pinned := { name := "ytgijgcmcpgepaaa", sum := "6f5b65cf04da13296f96bc2523c7abaf2ff11c16eff500ae4f74b7f1af353e47", checked := Try.checked }
namespace Rows
def none {H : Type} : Left H := { results := [], args := [] }

/-- 'guidevanelaw08.DispatchTasks': WHATEVER THE INPUT: true; the input reads as it did. -/
def dispatchTasksSpec : ChangeSpec := { name := "dispatchTasks", fn := fun _ => fun
  | [d1, d2, d3] => { results := [.lit (.bool true)], args := [d1, d2, d3] }
  | _ => none }
def dispatchTasksRow : OpenClaim := { program := "ytgijgcmcpgepaaa", sum := "6f5b65cf04da13296f96bc2523c7abaf2ff11c16eff500ae4f74b7f1af353e47", func := "guidevane/guidevanelaw08.DispatchTasks", spec := "dispatchTasks", unfollowed := true, recurses := true, apart := false }
def DispatchTasksSaid : Prop := dispatchTasksRow.holds Try.pinned (OpenSpec.ofChange dispatchTasksSpec)

/-- ITS FALSE NEIGHBOUR: 'it returns false'. Refute it at one input. -/
def dispatchTasksWrong : ChangeSpec := { name := "dispatchTasks", fn := fun _ => fun
  | [d1, d2, d3] => { results := [.lit (.bool false)], args := [d1, d2, d3] }
  | _ => none }
def DispatchTasksWrongFalsely : Prop := dispatchTasksRow.holds Try.pinned (OpenSpec.ofChange dispatchTasksWrong)

/-- 'guidevanelaw08.DispatchBest': WHATEVER THE INPUT: true; the input reads as it did. -/
def dispatchBestSpec : ChangeSpec := { name := "dispatchBest", fn := fun _ => fun
  | [d1, d2, d3] => { results := [.lit (.bool true)], args := [d1, d2, d3] }
  | _ => none }
def dispatchBestRow : OpenClaim := { program := "ytgijgcmcpgepaaa", sum := "6f5b65cf04da13296f96bc2523c7abaf2ff11c16eff500ae4f74b7f1af353e47", func := "guidevane/guidevanelaw08.DispatchBest", spec := "dispatchBest", unfollowed := true, recurses := true, apart := false }
def DispatchBestSaid : Prop := dispatchBestRow.holds Try.pinned (OpenSpec.ofChange dispatchBestSpec)

/-- ITS FALSE NEIGHBOUR: 'it returns false'. Refute it at one input. -/
def dispatchBestWrong : ChangeSpec := { name := "dispatchBest", fn := fun _ => fun
  | [d1, d2, d3] => { results := [.lit (.bool false)], args := [d1, d2, d3] }
  | _ => none }
def DispatchBestWrongFalsely : Prop := dispatchBestRow.holds Try.pinned (OpenSpec.ofChange dispatchBestWrong)

/-- 'guidevanelaw08.DispatchReserves': WHATEVER THE INPUT: true; the input reads as it did. -/
def dispatchReservesSpec : ChangeSpec := { name := "dispatchReserves", fn := fun _ => fun
  | [d1, d2, d3] => { results := [.lit (.bool true)], args := [d1, d2, d3] }
  | _ => none }
def dispatchReservesRow : OpenClaim := { program := "ytgijgcmcpgepaaa", sum := "6f5b65cf04da13296f96bc2523c7abaf2ff11c16eff500ae4f74b7f1af353e47", func := "guidevane/guidevanelaw08.DispatchReserves", spec := "dispatchReserves", unfollowed := true, recurses := true, apart := false }
def DispatchReservesSaid : Prop := dispatchReservesRow.holds Try.pinned (OpenSpec.ofChange dispatchReservesSpec)

/-- ITS FALSE NEIGHBOUR: 'it returns false'. Refute it at one input. -/
def dispatchReservesWrong : ChangeSpec := { name := "dispatchReserves", fn := fun _ => fun
  | [d1, d2, d3] => { results := [.lit (.bool false)], args := [d1, d2, d3] }
  | _ => none }
def DispatchReservesWrongFalsely : Prop := dispatchReservesRow.holds Try.pinned (OpenSpec.ofChange dispatchReservesWrong)

/-- 'guidevanelaw08.DispatchHolds': WHATEVER THE INPUT: true; the input reads as it did. -/
def dispatchHoldsSpec : ChangeSpec := { name := "dispatchHolds", fn := fun _ => fun
  | [d1, d2, d3] => { results := [.lit (.bool true)], args := [d1, d2, d3] }
  | _ => none }
def dispatchHoldsRow : OpenClaim := { program := "ytgijgcmcpgepaaa", sum := "6f5b65cf04da13296f96bc2523c7abaf2ff11c16eff500ae4f74b7f1af353e47", func := "guidevane/guidevanelaw08.DispatchHolds", spec := "dispatchHolds", unfollowed := true, recurses := true, apart := false }
def DispatchHoldsSaid : Prop := dispatchHoldsRow.holds Try.pinned (OpenSpec.ofChange dispatchHoldsSpec)

/-- ITS FALSE NEIGHBOUR: 'it returns false'. Refute it at one input. -/
def dispatchHoldsWrong : ChangeSpec := { name := "dispatchHolds", fn := fun _ => fun
  | [d1, d2, d3] => { results := [.lit (.bool false)], args := [d1, d2, d3] }
  | _ => none }
def DispatchHoldsWrongFalsely : Prop := dispatchHoldsRow.holds Try.pinned (OpenSpec.ofChange dispatchHoldsWrong)

/-- 'guidevanelaw08.DispatchGiven': WHATEVER THE INPUT: true; the input reads as it did. -/
def dispatchGivenSpec : ChangeSpec := { name := "dispatchGiven", fn := fun _ => fun
  | [d1, d2, d3] => { results := [.lit (.bool true)], args := [d1, d2, d3] }
  | _ => none }
def dispatchGivenRow : OpenClaim := { program := "ytgijgcmcpgepaaa", sum := "6f5b65cf04da13296f96bc2523c7abaf2ff11c16eff500ae4f74b7f1af353e47", func := "guidevane/guidevanelaw08.DispatchGiven", spec := "dispatchGiven", unfollowed := true, recurses := true, apart := false }
def DispatchGivenSaid : Prop := dispatchGivenRow.holds Try.pinned (OpenSpec.ofChange dispatchGivenSpec)

/-- ITS FALSE NEIGHBOUR: 'it returns false'. Refute it at one input. -/
def dispatchGivenWrong : ChangeSpec := { name := "dispatchGiven", fn := fun _ => fun
  | [d1, d2, d3] => { results := [.lit (.bool false)], args := [d1, d2, d3] }
  | _ => none }
def DispatchGivenWrongFalsely : Prop := dispatchGivenRow.holds Try.pinned (OpenSpec.ofChange dispatchGivenWrong)

/-- 'guidevanelaw08.DispatchActivations': WHATEVER THE INPUT: true; the input reads as it did. -/
def dispatchActivationsSpec : ChangeSpec := { name := "dispatchActivations", fn := fun _ => fun
  | [d1, d2, d3] => { results := [.lit (.bool true)], args := [d1, d2, d3] }
  | _ => none }
def dispatchActivationsRow : OpenClaim := { program := "ytgijgcmcpgepaaa", sum := "6f5b65cf04da13296f96bc2523c7abaf2ff11c16eff500ae4f74b7f1af353e47", func := "guidevane/guidevanelaw08.DispatchActivations", spec := "dispatchActivations", unfollowed := true, recurses := true, apart := false }
def DispatchActivationsSaid : Prop := dispatchActivationsRow.holds Try.pinned (OpenSpec.ofChange dispatchActivationsSpec)

/-- ITS FALSE NEIGHBOUR: 'it returns false'. Refute it at one input. -/
def dispatchActivationsWrong : ChangeSpec := { name := "dispatchActivations", fn := fun _ => fun
  | [d1, d2, d3] => { results := [.lit (.bool false)], args := [d1, d2, d3] }
  | _ => none }
def DispatchActivationsWrongFalsely : Prop := dispatchActivationsRow.holds Try.pinned (OpenSpec.ofChange dispatchActivationsWrong)

/-- 'guidevanelaw08.DispatchSums': WHATEVER THE INPUT: true; the input reads as it did. -/
def dispatchSumsSpec : ChangeSpec := { name := "dispatchSums", fn := fun _ => fun
  | [d1, d2, d3] => { results := [.lit (.bool true)], args := [d1, d2, d3] }
  | _ => none }
def dispatchSumsRow : OpenClaim := { program := "ytgijgcmcpgepaaa", sum := "6f5b65cf04da13296f96bc2523c7abaf2ff11c16eff500ae4f74b7f1af353e47", func := "guidevane/guidevanelaw08.DispatchSums", spec := "dispatchSums", unfollowed := true, recurses := true, apart := false }
def DispatchSumsSaid : Prop := dispatchSumsRow.holds Try.pinned (OpenSpec.ofChange dispatchSumsSpec)

/-- ITS FALSE NEIGHBOUR: 'it returns false'. Refute it at one input. -/
def dispatchSumsWrong : ChangeSpec := { name := "dispatchSums", fn := fun _ => fun
  | [d1, d2, d3] => { results := [.lit (.bool false)], args := [d1, d2, d3] }
  | _ => none }
def DispatchSumsWrongFalsely : Prop := dispatchSumsRow.holds Try.pinned (OpenSpec.ofChange dispatchSumsWrong)

/-- 'guidevanelaw08.DispatchRevisions': WHATEVER THE INPUT: true; the input reads as it did. -/
def dispatchRevisionsSpec : ChangeSpec := { name := "dispatchRevisions", fn := fun _ => fun
  | [d1, d2] => { results := [.lit (.bool true)], args := [d1, d2] }
  | _ => none }
def dispatchRevisionsRow : OpenClaim := { program := "ytgijgcmcpgepaaa", sum := "6f5b65cf04da13296f96bc2523c7abaf2ff11c16eff500ae4f74b7f1af353e47", func := "guidevane/guidevanelaw08.DispatchRevisions", spec := "dispatchRevisions", unfollowed := true, recurses := true, apart := false }
def DispatchRevisionsSaid : Prop := dispatchRevisionsRow.holds Try.pinned (OpenSpec.ofChange dispatchRevisionsSpec)

/-- ITS FALSE NEIGHBOUR: 'it returns false'. Refute it at one input. -/
def dispatchRevisionsWrong : ChangeSpec := { name := "dispatchRevisions", fn := fun _ => fun
  | [d1, d2] => { results := [.lit (.bool false)], args := [d1, d2] }
  | _ => none }
def DispatchRevisionsWrongFalsely : Prop := dispatchRevisionsRow.holds Try.pinned (OpenSpec.ofChange dispatchRevisionsWrong)

/-- 'guidevanelaw08.DispatchInTurn': WHATEVER THE INPUT: true; the input reads as it did. -/
def dispatchInTurnSpec : ChangeSpec := { name := "dispatchInTurn", fn := fun _ => fun
  | [d1, d2, d3] => { results := [.lit (.bool true)], args := [d1, d2, d3] }
  | _ => none }
def dispatchInTurnRow : OpenClaim := { program := "ytgijgcmcpgepaaa", sum := "6f5b65cf04da13296f96bc2523c7abaf2ff11c16eff500ae4f74b7f1af353e47", func := "guidevane/guidevanelaw08.DispatchInTurn", spec := "dispatchInTurn", unfollowed := true, recurses := true, apart := false }
def DispatchInTurnSaid : Prop := dispatchInTurnRow.holds Try.pinned (OpenSpec.ofChange dispatchInTurnSpec)

/-- ITS FALSE NEIGHBOUR: 'it returns false'. Refute it at one input. -/
def dispatchInTurnWrong : ChangeSpec := { name := "dispatchInTurn", fn := fun _ => fun
  | [d1, d2, d3] => { results := [.lit (.bool false)], args := [d1, d2, d3] }
  | _ => none }
def DispatchInTurnWrongFalsely : Prop := dispatchInTurnRow.holds Try.pinned (OpenSpec.ofChange dispatchInTurnWrong)

/- THE SECOND FORM. 'bulk': how many values and letters a reading holds, each counted each time it is reached (what is shared counts as often as it is met; a slice's spare places count too). A statement '..UptoSaid' is the law's where the arguments, and the package variables that the reading takes, are together of bulk at most 1048576: NARROWER than '..Said'. Prove '..Said' where nothing that the law and all that it calls make is longer than what came in: it says more and counts as full. Else prove '..UptoSaid'. A law counts once. -/
mutual
def uptoBulk {H : Type} : DataW H → Nat
  | .lit (.string bytes) => bytes.length + 1
  | .lit _ => 1
  | .nil => 1
  | .ptr d => uptoBulk d + 1
  | .slice elems spare => uptoBulkAll elems + uptoBulkAll spare + 1
  | .agg parts => uptoBulkAll parts + 1
  | .iface _ d => uptoBulk d + 1
  | .map entries => uptoBulkEntries entries + 1
  | .held _ => 1
def uptoBulkAll {H : Type} : List (DataW H) → Nat
  | [] => 0
  | d :: r => uptoBulk d + uptoBulkAll r
def uptoBulkEntries {H : Type} : List (Lit × DataW H) → Nat
  | [] => 0
  | x :: r => uptoBulkEntry x + uptoBulkEntries r
def uptoBulkEntry {H : Type} : Lit × DataW H → Nat
  | (.string bytes, d) => bytes.length + uptoBulk d + 1
  | (_, d) => uptoBulk d + 1
 end
def uptoSmall : (H : Type) → List (DataW H) → Bool := fun _ ds => decide (uptoBulkAll ds ≤ 1048576)
def OpenSpec.upto (s : _root_.Go.ChangeSpec) : _root_.Go.OpenSpec := { _root_.Go.OpenSpec.ofChange s with cond := some uptoSmall }

/-- 'guidevanelaw08.DispatchTasks', WHERE WHAT IT READS IS OF BULK AT MOST 1048576: true; the input reads as it did. -/
def dispatchTasksUptoRow : OpenClaim := { program := "ytgijgcmcpgepaaa", sum := "6f5b65cf04da13296f96bc2523c7abaf2ff11c16eff500ae4f74b7f1af353e47", func := "guidevane/guidevanelaw08.DispatchTasks", spec := "dispatchTasks", unfollowed := true, recurses := true, apart := false, narrowed := true }
def DispatchTasksUptoSaid : Prop := dispatchTasksUptoRow.holds Try.pinned (OpenSpec.upto dispatchTasksSpec)

/-- 'guidevanelaw08.DispatchBest', WHERE WHAT IT READS IS OF BULK AT MOST 1048576: true; the input reads as it did. -/
def dispatchBestUptoRow : OpenClaim := { program := "ytgijgcmcpgepaaa", sum := "6f5b65cf04da13296f96bc2523c7abaf2ff11c16eff500ae4f74b7f1af353e47", func := "guidevane/guidevanelaw08.DispatchBest", spec := "dispatchBest", unfollowed := true, recurses := true, apart := false, narrowed := true }
def DispatchBestUptoSaid : Prop := dispatchBestUptoRow.holds Try.pinned (OpenSpec.upto dispatchBestSpec)

/-- 'guidevanelaw08.DispatchReserves', WHERE WHAT IT READS IS OF BULK AT MOST 1048576: true; the input reads as it did. -/
def dispatchReservesUptoRow : OpenClaim := { program := "ytgijgcmcpgepaaa", sum := "6f5b65cf04da13296f96bc2523c7abaf2ff11c16eff500ae4f74b7f1af353e47", func := "guidevane/guidevanelaw08.DispatchReserves", spec := "dispatchReserves", unfollowed := true, recurses := true, apart := false, narrowed := true }
def DispatchReservesUptoSaid : Prop := dispatchReservesUptoRow.holds Try.pinned (OpenSpec.upto dispatchReservesSpec)

/-- 'guidevanelaw08.DispatchHolds', WHERE WHAT IT READS IS OF BULK AT MOST 1048576: true; the input reads as it did. -/
def dispatchHoldsUptoRow : OpenClaim := { program := "ytgijgcmcpgepaaa", sum := "6f5b65cf04da13296f96bc2523c7abaf2ff11c16eff500ae4f74b7f1af353e47", func := "guidevane/guidevanelaw08.DispatchHolds", spec := "dispatchHolds", unfollowed := true, recurses := true, apart := false, narrowed := true }
def DispatchHoldsUptoSaid : Prop := dispatchHoldsUptoRow.holds Try.pinned (OpenSpec.upto dispatchHoldsSpec)

/-- 'guidevanelaw08.DispatchGiven', WHERE WHAT IT READS IS OF BULK AT MOST 1048576: true; the input reads as it did. -/
def dispatchGivenUptoRow : OpenClaim := { program := "ytgijgcmcpgepaaa", sum := "6f5b65cf04da13296f96bc2523c7abaf2ff11c16eff500ae4f74b7f1af353e47", func := "guidevane/guidevanelaw08.DispatchGiven", spec := "dispatchGiven", unfollowed := true, recurses := true, apart := false, narrowed := true }
def DispatchGivenUptoSaid : Prop := dispatchGivenUptoRow.holds Try.pinned (OpenSpec.upto dispatchGivenSpec)

/-- 'guidevanelaw08.DispatchActivations', WHERE WHAT IT READS IS OF BULK AT MOST 1048576: true; the input reads as it did. -/
def dispatchActivationsUptoRow : OpenClaim := { program := "ytgijgcmcpgepaaa", sum := "6f5b65cf04da13296f96bc2523c7abaf2ff11c16eff500ae4f74b7f1af353e47", func := "guidevane/guidevanelaw08.DispatchActivations", spec := "dispatchActivations", unfollowed := true, recurses := true, apart := false, narrowed := true }
def DispatchActivationsUptoSaid : Prop := dispatchActivationsUptoRow.holds Try.pinned (OpenSpec.upto dispatchActivationsSpec)

/-- 'guidevanelaw08.DispatchSums', WHERE WHAT IT READS IS OF BULK AT MOST 1048576: true; the input reads as it did. -/
def dispatchSumsUptoRow : OpenClaim := { program := "ytgijgcmcpgepaaa", sum := "6f5b65cf04da13296f96bc2523c7abaf2ff11c16eff500ae4f74b7f1af353e47", func := "guidevane/guidevanelaw08.DispatchSums", spec := "dispatchSums", unfollowed := true, recurses := true, apart := false, narrowed := true }
def DispatchSumsUptoSaid : Prop := dispatchSumsUptoRow.holds Try.pinned (OpenSpec.upto dispatchSumsSpec)

/-- 'guidevanelaw08.DispatchRevisions', WHERE WHAT IT READS IS OF BULK AT MOST 1048576: true; the input reads as it did. -/
def dispatchRevisionsUptoRow : OpenClaim := { program := "ytgijgcmcpgepaaa", sum := "6f5b65cf04da13296f96bc2523c7abaf2ff11c16eff500ae4f74b7f1af353e47", func := "guidevane/guidevanelaw08.DispatchRevisions", spec := "dispatchRevisions", unfollowed := true, recurses := true, apart := false, narrowed := true }
def DispatchRevisionsUptoSaid : Prop := dispatchRevisionsUptoRow.holds Try.pinned (OpenSpec.upto dispatchRevisionsSpec)

/-- 'guidevanelaw08.DispatchInTurn', WHERE WHAT IT READS IS OF BULK AT MOST 1048576: true; the input reads as it did. -/
def dispatchInTurnUptoRow : OpenClaim := { program := "ytgijgcmcpgepaaa", sum := "6f5b65cf04da13296f96bc2523c7abaf2ff11c16eff500ae4f74b7f1af353e47", func := "guidevane/guidevanelaw08.DispatchInTurn", spec := "dispatchInTurn", unfollowed := true, recurses := true, apart := false, narrowed := true }
def DispatchInTurnUptoSaid : Prop := dispatchInTurnUptoRow.holds Try.pinned (OpenSpec.upto dispatchInTurnSpec)

end Rows
end Go.Proofs.Ytgijgcmcpgepaaa
