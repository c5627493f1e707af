/-
  DispatchTasks: its computed cells, one by one.
-/
import Derived.Test.YtgijgcmcpgepaaaRows
import Derived.Test.YtgijgcmcpgepaaaChecked
import Derived.JoinedOf
import Derived.KernelRfl
namespace Go.Proofs.Ytgijgcmcpgepaaa
theorem dispatchTasks_j0 : (Rows.dispatchTasksRow.inPlace == Try.checked.prog.inPlace 3) = true := by kernel_rfl
theorem dispatchTasks_j1 : (Rows.dispatchTasksRow.unfollowed == Try.checked.prog.unfollowed 3) = true := by kernel_rfl
theorem dispatchTasks_j2 : (Rows.dispatchTasksRow.recurses == Try.checked.prog.recurses 3) = true := by kernel_rfl
theorem dispatchTasks_j3 : (Rows.dispatchTasksRow.named == Try.checked.prog.varsNamed 3) = true := by kernel_rfl
theorem dispatchTasks_j4 : (Rows.dispatchTasksRow.plainKeys == Try.checked.prog.plainKeys) = true := by kernel_rfl
theorem dispatchTasks_j5 : (Rows.dispatchTasksRow.lifted == Try.checked.prog.liftsFinal) = true := by kernel_rfl
theorem dispatchTasks_j6 : (Try.checked.prog.stopsHeard) = true := by kernel_rfl
theorem dispatchTasks_j7 : (Try.checked.prog.mayEnter) = true := by kernel_rfl
theorem dispatchTasks_j8 : (laidOutB Try.checked.prog) = true := by kernel_rfl
theorem dispatchTasks_j9 : (mapsRowed Try.checked.prog) = true := by kernel_rfl
theorem dispatchTasks_joined : joinedFacts Try.checked.prog 3 Try.f3 Rows.dispatchTasksSpec Rows.dispatchTasksRow = true := by
  unfold joinedFacts
  rw [dispatchTasks_j0, dispatchTasks_j1, dispatchTasks_j2, dispatchTasks_j3, dispatchTasks_j4, dispatchTasks_j5, dispatchTasks_j6, dispatchTasks_j7, dispatchTasks_j8, dispatchTasks_j9]
  kernel_rfl
end Go.Proofs.Ytgijgcmcpgepaaa
