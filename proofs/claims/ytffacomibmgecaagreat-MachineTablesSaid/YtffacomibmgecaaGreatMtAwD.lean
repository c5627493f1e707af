/-
  An example: the call of 32.
-/
import Derived.Test.YtffacomibmgecaaGreatEngX
import Derived.Test.YtffacomibmgecaaGreatProg
import Derived.KernelRfl
import Derived.Test.YtffacomibmgecaaGreatMtAw0
namespace Go.Proofs.YtffacomibmgecaaGreat.Eng
open Go.Proofs
theorem exam32 : run (xprog Tryz.prog [180, 1000190]) 256 (.call 32) [exTab, .agg [.int .i64 15, .int .i64 1], .int .i64 75] Store.empty = some (.ret, [.tup [.list 2 [.agg [.int .i64 15, .int .i64 1]] none, .int .i64 0]], Store.empty) := by kernel_rfl
end Go.Proofs.YtffacomibmgecaaGreat.Eng
