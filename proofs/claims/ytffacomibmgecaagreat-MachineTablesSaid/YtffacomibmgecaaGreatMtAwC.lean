/-
  An example: the call of 77.
-/
import Derived.Test.YtffacomibmgecaaGreatEngX
import Derived.Test.YtffacomibmgecaaGreatProg
import Derived.KernelRfl
import Derived.Test.YtffacomibmgecaaGreatMtAw0
namespace Go.Proofs.YtffacomibmgecaaGreat.Eng
open Go.Proofs
theorem exam77 : run (xprog Tryz.prog [180, 1000190]) 16 (.call 77) [.int .i64 15] Store.empty = some (.ret, [.agg [.int .i64 15, .int .i64 1]], Store.empty) := by kernel_rfl
end Go.Proofs.YtffacomibmgecaaGreat.Eng
