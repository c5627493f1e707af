/-
  SequenceHalls: it returns true for all arguments.
-/
import Derived.Test.YtjbegiaceekgcaaSqHallsRow
import Derived.Test.YtjbegiaceekgcaaTab1
namespace Go.Proofs.Ytjbegiaceekgcaa
open Go.ChangeShapes Go.WideShapes Go.ChangeAt Go.RowKit Go.Proofs.Ytjbegiaceekgcaa.Eng
set_option linter.unusedSimpArgs false
set_option linter.unusedVariables false
theorem sequenceHalls_holds : Rows.SequenceHallsSaid :=
  OpenClaim.holds_of_wide 7 Try.f7 rfl rfl rfl rfl rfl rfl rfl ⟨rfl, rfl, rfl, rfl, rfl⟩ rfl rfl rfl rfl rfl (by kernel_rfl) Try.func7 sequenceHalls_joined
    (of_decide_eq_true (by kernel_rfl)) (by unfold Func.isWrapper; first | (rw [if_pos (by decide +kernel)]; kernel_rfl) | (rw [if_neg (by decide +kernel)]; exact ⟨rfl, rfl⟩))
    (fun os started H enc _ => sequenceHalls_lifted os started H enc)
end Go.Proofs.Ytjbegiaceekgcaa
