/-
  Examples, by the kernel.
-/
import Derived.Test.YtgijgcmcpgepaaaDxTq1
import Derived.Test.YtgijgcmcpgepaaaProg
import Derived.KernelRfl
namespace Go.Proofs.Ytgijgcmcpgepaaa.Eng
open Go.Proofs
theorem dxaw : awB (xprogG Try.prog [2000073, 75, 105] (tabs dxT3)) 256 12 = true := by kernel_rfl
end Go.Proofs.Ytgijgcmcpgepaaa.Eng
