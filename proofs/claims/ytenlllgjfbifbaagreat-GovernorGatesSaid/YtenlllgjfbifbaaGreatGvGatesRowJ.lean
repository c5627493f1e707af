/-
  GovernorGates: its computed cells, one by one.
-/
import Derived.Test.YtenlllgjfbifbaaGreatRows
import Derived.Test.YtenlllgjfbifbaaGreatChecked
import Derived.JoinedOf
import Derived.KernelRfl
namespace Go.Proofs.YtenlllgjfbifbaaGreat
theorem governorGates_j0 : (Rows.governorGatesRow.inPlace == Tryz.checked.prog.inPlace 3) = true := by kernel_rfl
theorem governorGates_j1 : (Rows.governorGatesRow.unfollowed == Tryz.checked.prog.unfollowed 3) = true := by kernel_rfl
theorem governorGates_j2 : (Rows.governorGatesRow.recurses == Tryz.checked.prog.recurses 3) = true := by kernel_rfl
theorem governorGates_j3 : (Rows.governorGatesRow.named == Tryz.checked.prog.varsNamed 3) = true := by kernel_rfl
theorem governorGates_j4 : (Rows.governorGatesRow.plainKeys == Tryz.checked.prog.plainKeys) = true := by kernel_rfl
theorem governorGates_j5 : (Rows.governorGatesRow.lifted == Tryz.checked.prog.liftsFinal) = true := by kernel_rfl
theorem governorGates_j6 : (Tryz.checked.prog.stopsHeard) = true := by kernel_rfl
theorem governorGates_j7 : (Tryz.checked.prog.mayEnter) = true := by kernel_rfl
theorem governorGates_j8 : (laidOutB Tryz.checked.prog) = true := by kernel_rfl
theorem governorGates_j9 : (mapsRowed Tryz.checked.prog) = true := by kernel_rfl
theorem governorGates_joined : joinedFacts Tryz.checked.prog 3 Tryz.f3 Rows.governorGatesSpec Rows.governorGatesRow = true := by
  unfold joinedFacts
  rw [governorGates_j0, governorGates_j1, governorGates_j2, governorGates_j3, governorGates_j4, governorGates_j5, governorGates_j6, governorGates_j7, governorGates_j8, governorGates_j9]
  kernel_rfl
end Go.Proofs.YtenlllgjfbifbaaGreat
