/-
  MachineTables: its computed cells, one by one.
-/
import Derived.Test.YtffacomibmgecaaGreatRows
import Derived.Test.YtffacomibmgecaaGreatChecked
import Derived.JoinedOf
import Derived.KernelRfl
namespace Go.Proofs.YtffacomibmgecaaGreat
theorem machineTables_j0 : (Rows.machineTablesRow.inPlace == Tryz.checked.prog.inPlace 3) = true := by kernel_rfl
theorem machineTables_j1 : (Rows.machineTablesRow.unfollowed == Tryz.checked.prog.unfollowed 3) = true := by kernel_rfl
theorem machineTables_j2 : (Rows.machineTablesRow.recurses == Tryz.checked.prog.recurses 3) = true := by kernel_rfl
theorem machineTables_j3 : (Rows.machineTablesRow.named == Tryz.checked.prog.varsNamed 3) = true := by kernel_rfl
theorem machineTables_j4 : (Rows.machineTablesRow.plainKeys == Tryz.checked.prog.plainKeys) = true := by kernel_rfl
theorem machineTables_j5 : (Rows.machineTablesRow.lifted == Tryz.checked.prog.liftsFinal) = true := by kernel_rfl
theorem machineTables_j6 : (Tryz.checked.prog.stopsHeard) = true := by kernel_rfl
theorem machineTables_j7 : (Tryz.checked.prog.mayEnter) = true := by kernel_rfl
theorem machineTables_j8 : (laidOutB Tryz.checked.prog) = true := by kernel_rfl
theorem machineTables_j9 : (mapsRowed Tryz.checked.prog) = true := by kernel_rfl
theorem machineTables_joined : joinedFacts Tryz.checked.prog 3 Tryz.f3 Rows.machineTablesSpec Rows.machineTablesRow = true := by
  unfold joinedFacts
  rw [machineTables_j0, machineTables_j1, machineTables_j2, machineTables_j3, machineTables_j4, machineTables_j5, machineTables_j6, machineTables_j7, machineTables_j8, machineTables_j9]
  kernel_rfl
end Go.Proofs.YtffacomibmgecaaGreat
