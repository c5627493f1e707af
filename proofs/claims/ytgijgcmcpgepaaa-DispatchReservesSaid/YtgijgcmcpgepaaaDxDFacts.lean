/-
  DxDFacts: the compiled code is what it is.
-/
import Derived.Test.YtgijgcmcpgepaaaCode1
import Derived.Test.YtgijgcmcpgepaaaDxCFacts
import Derived.KernelRfl
namespace Go.Proofs.Ytgijgcmcpgepaaa.Eng
open Go.Proofs
theorem dxD_code : DxDCode (xprogG Try.prog [2000073, 75, 105] [(12, 1, gAw)]) where
  dxC := dxC_code
  h36 := by kernel_rfl
  h98 := by kernel_rfl
  h38 := by kernel_rfl
  h99 := by kernel_rfl
  h39 := by kernel_rfl
  h40 := by kernel_rfl
  h41 := by kernel_rfl
  h37 := by kernel_rfl
  h5 := by kernel_rfl
end Go.Proofs.Ytgijgcmcpgepaaa.Eng
