/-
  DispatchReserves: its computed cells, one by one.
-/
import Derived.Test.YtgijgcmcpgepaaaRows
import Derived.Test.YtgijgcmcpgepaaaChecked
import Derived.JoinedOf
import Derived.KernelRfl
namespace Go.Proofs.Ytgijgcmcpgepaaa
theorem dispatchReserves_j0 : (Rows.dispatchReservesRow.inPlace == Try.checked.prog.inPlace 5) = true := by kernel_rfl
theorem dispatchReserves_j1 : (Rows.dispatchReservesRow.unfollowed == Try.checked.prog.unfollowed 5) = true := by kernel_rfl
theorem dispatchReserves_j2 : (Rows.dispatchReservesRow.recurses == Try.checked.prog.recurses 5) = true := by kernel_rfl
theorem dispatchReserves_j3 : (Rows.dispatchReservesRow.named == Try.checked.prog.varsNamed 5) = true := by kernel_rfl
theorem dispatchReserves_j4 : (Rows.dispatchReservesRow.plainKeys == Try.checked.prog.plainKeys) = true := by kernel_rfl
theorem dispatchReserves_j5 : (Rows.dispatchReservesRow.lifted == Try.checked.prog.liftsFinal) = true := by kernel_rfl
theorem dispatchReserves_j6 : (Try.checked.prog.stopsHeard) = true := by kernel_rfl
theorem dispatchReserves_j7 : (Try.checked.prog.mayEnter) = true := by kernel_rfl
theorem dispatchReserves_j8 : (laidOutB Try.checked.prog) = true := by kernel_rfl
theorem dispatchReserves_j9 : (mapsRowed Try.checked.prog) = true := by kernel_rfl
theorem dispatchReserves_joined : joinedFacts Try.checked.prog 5 Try.f5 Rows.dispatchReservesSpec Rows.dispatchReservesRow = true := by
  unfold joinedFacts
  rw [dispatchReserves_j0, dispatchReserves_j1, dispatchReserves_j2, dispatchReserves_j3, dispatchReserves_j4, dispatchReserves_j5, dispatchReserves_j6, dispatchReserves_j7, dispatchReserves_j8, dispatchReserves_j9]
  kernel_rfl
end Go.Proofs.Ytgijgcmcpgepaaa
