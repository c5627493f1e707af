/-
  An example: the call of 38.
-/
import Derived.Test.YtffacomibmgecaaGreatEngX
import Derived.Test.YtffacomibmgecaaGreatProg
import Derived.KernelRfl
import Derived.Test.YtffacomibmgecaaGreatMtAw0
namespace Go.Proofs.YtffacomibmgecaaGreat.Eng
open Go.Proofs
theorem exam38 : run (xprog Tryz.prog [180, 1000190]) 256 (.call 38) [.list 2 [.agg [.int .i64 15, .int .i64 1]] none, .list 2 [.agg [.int .i64 15, .int .i64 1]] none] Store.empty = some (.ret, [.bool true], Store.empty) := by kernel_rfl
theorem exam77b : run (xprog Tryz.prog [180, 1000190]) 16 (.call 77) [.int .i64 2000] Store.empty = some (.ret, [.agg [.int .i64 2000, .int .i64 1]], Store.empty) := by kernel_rfl
end Go.Proofs.YtffacomibmgecaaGreat.Eng
