/-
  Examples, by the kernel.
-/
import Derived.Test.YtgijgcmcpgepaaaDxT0
import Derived.Test.YtgijgcmcpgepaaaProg
import Derived.KernelRfl
namespace Go.Proofs.Ytgijgcmcpgepaaa.Eng
open Go.Proofs
theorem dxra : dxRA.all (rowB (xprogG Try.prog [2000073, 75, 105] (tabs dxT2)) 256 31 3) = true := by kernel_rfl
end Go.Proofs.Ytgijgcmcpgepaaa.Eng
