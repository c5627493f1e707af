/-
  GovernorWithin: it returns true for all arguments.
-/
import Derived.Test.YtenlllgjfbifbaaGreatGvWithinRow
import Derived.Test.YtenlllgjfbifbaaGreatGvWithinRowJ
namespace Go.Proofs.YtenlllgjfbifbaaGreat
open Go.ChangeShapes Go.WideShapes Go.ChangeAt Go.RowKit Go.Proofs.YtenlllgjfbifbaaGreat.Eng
set_option linter.unusedSimpArgs false
set_option linter.unusedVariables false
theorem governorWithin_holds : Rows.GovernorWithinSaid :=
  OpenClaim.holds_of_wide 5 Tryz.f5 rfl rfl rfl rfl rfl rfl rfl ⟨rfl, rfl, rfl, rfl, rfl⟩ rfl rfl rfl rfl rfl (by kernel_rfl) Tryz.func5 governorWithin_joined
    (of_decide_eq_true (by kernel_rfl)) (by unfold Func.isWrapper; first | (rw [if_pos (by decide +kernel)]; kernel_rfl) | (rw [if_neg (by decide +kernel)]; exact ⟨rfl, rfl⟩))
    (fun os started H enc _ => governorWithin_lifted os started H enc)
end Go.Proofs.YtenlllgjfbifbaaGreat
