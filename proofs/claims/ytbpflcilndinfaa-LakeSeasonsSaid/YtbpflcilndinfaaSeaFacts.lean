/-
  LAKE: the compiled code is what it is.
-/
import Derived.Test.YtbpflcilndinfaaSeaCode
import Derived.Test.YtbpflcilndinfaaEngX
import Derived.Test.YtbpflcilndinfaaProg
import Derived.KernelRfl
namespace Go.Proofs.Ytbpflcilndinfaa.Eng
open Go.Proofs
theorem sea_code : SeaCode (xprog Try.prog [127]) where
  h8 := by kernel_rfl
  h11 := by kernel_rfl
  h25 := by kernel_rfl
  h45 := by kernel_rfl
  h46 := by kernel_rfl
  h47 := by kernel_rfl
  h58 := by kernel_rfl
  h59 := by kernel_rfl
  h60 := by kernel_rfl
  h93 := by kernel_rfl
  h94 := by kernel_rfl
  h95 := by kernel_rfl
  h96 := by kernel_rfl
  h97 := by kernel_rfl
  h106 := by kernel_rfl
  h130 := by kernel_rfl
end Go.Proofs.Ytbpflcilndinfaa.Eng
