/-
  DxAFacts: the compiled code is what it is.
-/
import Derived.Test.YtgijgcmcpgepaaaCode1
import Derived.Test.YtgijgcmcpgepaaaProg
import Derived.KernelRfl
import Derived.Test.YtgijgcmcpgepaaaEngAw
namespace Go.Proofs.Ytgijgcmcpgepaaa.Eng
open Go.Proofs
theorem dxA_code : DxACode (xprogG Try.prog [2000073, 75, 105] [(12, 1, gAw)]) where
  h8 := by kernel_rfl
  h45 := by kernel_rfl
  h9 := by kernel_rfl
  h46 := by kernel_rfl
  h47 := by kernel_rfl
  h20 := by kernel_rfl
  h26 := by kernel_rfl
  h48 := by kernel_rfl
  h49 := by kernel_rfl
  h50 := by kernel_rfl
  h51 := by kernel_rfl
  h52 := by kernel_rfl
  h33 := by kernel_rfl
  h69 := by kernel_rfl
  h70 := by kernel_rfl
  h71 := by kernel_rfl
  h76 := by kernel_rfl
  h101 := by kernel_rfl
  h102 := by kernel_rfl
  h103 := by kernel_rfl
end Go.Proofs.Ytgijgcmcpgepaaa.Eng
