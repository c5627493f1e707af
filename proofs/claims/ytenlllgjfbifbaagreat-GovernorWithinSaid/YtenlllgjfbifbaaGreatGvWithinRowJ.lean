/-
  GovernorWithin: its computed cells, one by one.
-/
import Derived.Test.YtenlllgjfbifbaaGreatRows
import Derived.Test.YtenlllgjfbifbaaGreatChecked
import Derived.JoinedOf
import Derived.KernelRfl
namespace Go.Proofs.YtenlllgjfbifbaaGreat
theorem governorWithin_j0 : (Rows.governorWithinRow.inPlace == Tryz.checked.prog.inPlace 5) = true := by kernel_rfl
theorem governorWithin_j1 : (Rows.governorWithinRow.unfollowed == Tryz.checked.prog.unfollowed 5) = true := by kernel_rfl
theorem governorWithin_j2 : (Rows.governorWithinRow.recurses == Tryz.checked.prog.recurses 5) = true := by kernel_rfl
theorem governorWithin_j3 : (Rows.governorWithinRow.named == Tryz.checked.prog.varsNamed 5) = true := by kernel_rfl
theorem governorWithin_j4 : (Rows.governorWithinRow.plainKeys == Tryz.checked.prog.plainKeys) = true := by kernel_rfl
theorem governorWithin_j5 : (Rows.governorWithinRow.lifted == Tryz.checked.prog.liftsFinal) = true := by kernel_rfl
theorem governorWithin_j6 : (Tryz.checked.prog.stopsHeard) = true := by kernel_rfl
theorem governorWithin_j7 : (Tryz.checked.prog.mayEnter) = true := by kernel_rfl
theorem governorWithin_j8 : (laidOutB Tryz.checked.prog) = true := by kernel_rfl
theorem governorWithin_j9 : (mapsRowed Tryz.checked.prog) = true := by kernel_rfl
theorem governorWithin_joined : joinedFacts Tryz.checked.prog 5 Tryz.f5 Rows.governorWithinSpec Rows.governorWithinRow = true := by
  unfold joinedFacts
  rw [governorWithin_j0, governorWithin_j1, governorWithin_j2, governorWithin_j3, governorWithin_j4, governorWithin_j5, governorWithin_j6, governorWithin_j7, governorWithin_j8, governorWithin_j9]
  kernel_rfl
end Go.Proofs.YtenlllgjfbifbaaGreat
