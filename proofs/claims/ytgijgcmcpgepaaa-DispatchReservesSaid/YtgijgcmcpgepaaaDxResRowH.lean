/-
  DispatchReserves: it returns true for all arguments.
-/
import Derived.Test.YtgijgcmcpgepaaaDxResRow
import Derived.Test.YtgijgcmcpgepaaaDxResRowJ
namespace Go.Proofs.Ytgijgcmcpgepaaa
open Go.ChangeShapes Go.WideShapes Go.ChangeAt Go.RowKit Go.Proofs.Ytgijgcmcpgepaaa.Eng
set_option linter.unusedSimpArgs false
set_option linter.unusedVariables false
theorem dispatchReserves_holds : Rows.DispatchReservesSaid :=
  OpenClaim.holds_of_wide 5 Try.f5 rfl rfl rfl rfl rfl rfl rfl ⟨rfl, rfl, rfl, rfl, rfl⟩ rfl rfl rfl rfl rfl (by kernel_rfl) Try.func5 dispatchReserves_joined
    (of_decide_eq_true (by kernel_rfl)) (by unfold Func.isWrapper; first | (rw [if_pos (by decide +kernel)]; kernel_rfl) | (rw [if_neg (by decide +kernel)]; exact ⟨rfl, rfl⟩))
    (fun os started H enc _ => dispatchReserves_lifted os started H enc)
end Go.Proofs.Ytgijgcmcpgepaaa
