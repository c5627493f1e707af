/-
  DispatchActivations: its computed cells, one by one.
-/
import Derived.Test.YtgijgcmcpgepaaaRows
import Derived.Test.YtgijgcmcpgepaaaChecked
import Derived.JoinedOf
import Derived.KernelRfl
namespace Go.Proofs.Ytgijgcmcpgepaaa
theorem dispatchActivations_j0 : (Rows.dispatchActivationsRow.inPlace == Try.checked.prog.inPlace 8) = true := by kernel_rfl
theorem dispatchActivations_j1 : (Rows.dispatchActivationsRow.unfollowed == Try.checked.prog.unfollowed 8) = true := by kernel_rfl
theorem dispatchActivations_j2 : (Rows.dispatchActivationsRow.recurses == Try.checked.prog.recurses 8) = true := by kernel_rfl
theorem dispatchActivations_j3 : (Rows.dispatchActivationsRow.named == Try.checked.prog.varsNamed 8) = true := by kernel_rfl
theorem dispatchActivations_j4 : (Rows.dispatchActivationsRow.plainKeys == Try.checked.prog.plainKeys) = true := by kernel_rfl
theorem dispatchActivations_j5 : (Rows.dispatchActivationsRow.lifted == Try.checked.prog.liftsFinal) = true := by kernel_rfl
theorem dispatchActivations_j6 : (Try.checked.prog.stopsHeard) = true := by kernel_rfl
theorem dispatchActivations_j7 : (Try.checked.prog.mayEnter) = true := by kernel_rfl
theorem dispatchActivations_j8 : (laidOutB Try.checked.prog) = true := by kernel_rfl
theorem dispatchActivations_j9 : (mapsRowed Try.checked.prog) = true := by kernel_rfl
theorem dispatchActivations_joined : joinedFacts Try.checked.prog 8 Try.f8 Rows.dispatchActivationsSpec Rows.dispatchActivationsRow = true := by
  unfold joinedFacts
  rw [dispatchActivations_j0, dispatchActivations_j1, dispatchActivations_j2, dispatchActivations_j3, dispatchActivations_j4, dispatchActivations_j5, dispatchActivations_j6, dispatchActivations_j7, dispatchActivations_j8, dispatchActivations_j9]
  kernel_rfl
end Go.Proofs.Ytgijgcmcpgepaaa
