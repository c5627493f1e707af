/-
  SequenceVotes: it returns true for all arguments.
-/
import Derived.Test.YtjbegiaceekgcaaTab1
namespace Go.Proofs.Ytjbegiaceekgcaa
open Go.ChangeShapes Go.WideShapes Go.ChangeAt Go.RowKit Go.Proofs.Ytjbegiaceekgcaa.Eng
set_option linter.unusedSimpArgs false
set_option linter.unusedVariables false

set_option maxRecDepth 100000 in
theorem sequenceVotes_law {w : World} (xs : List AVal) (args' : Array Value) (hx : HasAll Try.prog Try.f6.params.toList xs) (hr : ARel (ghostOf w) xs args') :
    Calls Try.prog 6 args' w fun e w' => e = .returned (.bool true) ∧ Below w.heap.size w w' := by
  rw [Try.params6] at hx
  have hlen := hx.len
  match xs, hlen with
  | [x0, x1], _ =>
    obtain ⟨a, b, c, rfl⟩ := three_val (hx.val 0 76 x0 rfl rfl)
    obtain ⟨n, rfl, _⟩ := (hx.val 1 3 x1 rfl rfl).int_inv Try.underlying3
    have hf : freeL (stripL [.agg [.int .i64 a, .int .i64 b, .int .i64 c], .int .i64 n]) = true := rfl
    exact pure_calls (pure_of_run drawn hf (u6 sqA_code awake_run a b c n _)) hr

set_option maxRecDepth 100000 in
theorem sequenceVotes_lifted (os : Os) (started : os.Started) (H : Type) (enc : TypeId × Value → H) :
    ReturnsInHanded {} Try.checked os 6 .any (Rows.sequenceVotesSpec.pre6 enc Try.prog Try.f6 Rows.sequenceVotesRow.domain false) (Rows.sequenceVotesSpec.post enc Try.prog Try.f6 false true false false) := by
  refine returnsInHanded_of_change (C := Try.checked) own started (by kernel_rfl) Try.func6
    (ChangeSpec.witness6 (enc := enc) (C := Try.checked) false ⟨#[], #[.agg #[.int .i64 0, .int .i64 0, .int .i64 0], .int .i64 0], []⟩ 8 (by kernel_rfl) (by kernel_rfl) (by kernel_rfl) (by kernel_rfl)) ?_
  intro W base args ds gs before hval hW _ _
  exact law_contract (tb := 4) (by kernel_rfl) (by kernel_rfl) (by kernel_rfl) Try.underlying4 laid rowed sliced rfl
    (fun ds h => by
      rw [Try.params6] at h
      match ds, h with
      | [d0, d1], _ => exact ⟨rfl, rfl, rfl⟩)
    (fun xs args' => sequenceVotes_law xs args') base args ds gs before hval hW

end Go.Proofs.Ytjbegiaceekgcaa
