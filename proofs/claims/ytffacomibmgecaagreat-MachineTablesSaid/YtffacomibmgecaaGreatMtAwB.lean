/-
  An example: the call of 19.
-/
import Derived.Test.YtffacomibmgecaaGreatEngX
import Derived.Test.YtffacomibmgecaaGreatProg
import Derived.KernelRfl
import Derived.Test.YtffacomibmgecaaGreatMtAw0
namespace Go.Proofs.YtffacomibmgecaaGreat.Eng
open Go.Proofs
theorem exam19 : run (xprog Tryz.prog [180, 1000190]) 256 (.call 19) [exTab] Store.empty = some (.ret, [.tup [.int .i64 7600, .int .i64 0]], Store.empty) := by kernel_rfl
end Go.Proofs.YtffacomibmgecaaGreat.Eng
