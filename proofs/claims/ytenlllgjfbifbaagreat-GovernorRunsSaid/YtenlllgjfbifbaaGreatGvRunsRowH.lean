/-
  GovernorRuns: it returns true for all arguments.
-/
import Derived.Test.YtenlllgjfbifbaaGreatGvRunsRow
import Derived.Test.YtenlllgjfbifbaaGreatGvRun1
namespace Go.Proofs.YtenlllgjfbifbaaGreat
open Go.ChangeShapes Go.WideShapes Go.ChangeAt Go.RowKit Go.Proofs.YtenlllgjfbifbaaGreat.Eng
set_option linter.unusedSimpArgs false
set_option linter.unusedVariables false
theorem governorRuns_holds : Rows.GovernorRunsSaid :=
  OpenClaim.holds_of_wide 4 Tryz.f4 rfl rfl rfl rfl rfl rfl rfl ⟨rfl, rfl, rfl, rfl, rfl⟩ rfl rfl rfl rfl rfl (by kernel_rfl) Tryz.func4 governorRuns_joined
    (of_decide_eq_true (by kernel_rfl)) (by unfold Func.isWrapper; first | (rw [if_pos (by decide +kernel)]; kernel_rfl) | (rw [if_neg (by decide +kernel)]; exact ⟨rfl, rfl⟩))
    (fun os started H enc _ => governorRuns_lifted os started H enc)
end Go.Proofs.YtenlllgjfbifbaaGreat
