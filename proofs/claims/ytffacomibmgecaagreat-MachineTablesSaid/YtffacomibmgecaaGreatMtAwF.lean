/-
  An example: the call of 53.
-/
import Derived.Test.YtffacomibmgecaaGreatEngX
import Derived.Test.YtffacomibmgecaaGreatProg
import Derived.KernelRfl
import Derived.Test.YtffacomibmgecaaGreatMtAw0
namespace Go.Proofs.YtffacomibmgecaaGreat.Eng
open Go.Proofs
theorem exam53 : run (xprog Tryz.prog [180, 1000190]) 256 (.call 53) [exTab, .int .i64 100] Store.empty = some (.ret, [.tup [.agg [.int .i64 2000, .int .i64 1], .int .i64 0]], Store.empty) := by kernel_rfl
end Go.Proofs.YtffacomibmgecaaGreat.Eng
