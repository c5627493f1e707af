/-
  Examples, by the kernel.
-/
import Derived.Test.YtgijgcmcpgepaaaDxTq1
import Derived.Test.YtgijgcmcpgepaaaProg
import Derived.KernelRfl
namespace Go.Proofs.Ytgijgcmcpgepaaa.Eng
open Go.Proofs
theorem dxbc2 : dxBC2.all (rowB (xprog Try.prog [2000073, 75, 105, 4000003, 5000003, 2000135]) 128 125 5) = true := by kernel_rfl
end Go.Proofs.Ytgijgcmcpgepaaa.Eng
