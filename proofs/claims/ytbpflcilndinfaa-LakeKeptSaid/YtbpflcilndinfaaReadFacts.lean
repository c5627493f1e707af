/-
  READINGS: the compiled code is what it is.
-/
import Derived.Test.YtbpflcilndinfaaLakeFacts
import Derived.Test.YtbpflcilndinfaaCode2
namespace Go.Proofs.Ytbpflcilndinfaa.Eng
open Go.Proofs
theorem read_code : ReadCode (xprog Try.prog [127, 1000143]) where
  tab := tab_code
  h98 := by kernel_rfl
  h99 := by kernel_rfl
  h48 := by kernel_rfl
  h132 := by kernel_rfl
  h131 := by kernel_rfl
  h134 := by kernel_rfl
  h133 := by kernel_rfl
  h135 := by kernel_rfl
  h100 := by kernel_rfl
  h101 := by kernel_rfl
  h102 := by kernel_rfl
  h49 := by kernel_rfl
  h52 := by kernel_rfl
  h50 := by kernel_rfl
  h51 := by kernel_rfl
theorem lawC_code : LawCCode (xprog Try.prog [127, 1000143]) where
  tab := tab_code
  read := read_code
  h9 := by kernel_rfl
end Go.Proofs.Ytbpflcilndinfaa.Eng
