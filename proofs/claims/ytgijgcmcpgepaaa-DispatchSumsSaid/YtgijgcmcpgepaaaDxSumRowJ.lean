/-
  DispatchSums: its computed cells, one by one.
-/
import Derived.Test.YtgijgcmcpgepaaaRows
import Derived.Test.YtgijgcmcpgepaaaChecked
import Derived.JoinedOf
import Derived.KernelRfl
namespace Go.Proofs.Ytgijgcmcpgepaaa
theorem dispatchSums_j0 : (Rows.dispatchSumsRow.inPlace == Try.checked.prog.inPlace 9) = true := by kernel_rfl
theorem dispatchSums_j1 : (Rows.dispatchSumsRow.unfollowed == Try.checked.prog.unfollowed 9) = true := by kernel_rfl
theorem dispatchSums_j2 : (Rows.dispatchSumsRow.recurses == Try.checked.prog.recurses 9) = true := by kernel_rfl
theorem dispatchSums_j3 : (Rows.dispatchSumsRow.named == Try.checked.prog.varsNamed 9) = true := by kernel_rfl
theorem dispatchSums_j4 : (Rows.dispatchSumsRow.plainKeys == Try.checked.prog.plainKeys) = true := by kernel_rfl
theorem dispatchSums_j5 : (Rows.dispatchSumsRow.lifted == Try.checked.prog.liftsFinal) = true := by kernel_rfl
theorem dispatchSums_j6 : (Try.checked.prog.stopsHeard) = true := by kernel_rfl
theorem dispatchSums_j7 : (Try.checked.prog.mayEnter) = true := by kernel_rfl
theorem dispatchSums_j8 : (laidOutB Try.checked.prog) = true := by kernel_rfl
theorem dispatchSums_j9 : (mapsRowed Try.checked.prog) = true := by kernel_rfl
theorem dispatchSums_joined : joinedFacts Try.checked.prog 9 Try.f9 Rows.dispatchSumsSpec Rows.dispatchSumsRow = true := by
  unfold joinedFacts
  rw [dispatchSums_j0, dispatchSums_j1, dispatchSums_j2, dispatchSums_j3, dispatchSums_j4, dispatchSums_j5, dispatchSums_j6, dispatchSums_j7, dispatchSums_j8, dispatchSums_j9]
  kernel_rfl
end Go.Proofs.Ytgijgcmcpgepaaa
