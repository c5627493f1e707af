/-
  An example: the call of 76.
-/
import Derived.Test.YtffacomibmgecaaGreatEngX
import Derived.Test.YtffacomibmgecaaGreatProg
import Derived.KernelRfl
import Derived.Test.YtffacomibmgecaaGreatMtAw0
namespace Go.Proofs.YtffacomibmgecaaGreat.Eng
open Go.Proofs
theorem exam76 : run (xprog Tryz.prog [180, 1000190]) 32 (.call 76) [] Store.empty = some (.ret, [.agg [.list 2 [.agg [.int .i64 10, .list 3 [.agg [.int .i64 0, .int .i64 0, .int .i64 0], .agg [.int .i64 100, .int .i64 10, .int .i64 500], .agg [.int .i64 200, .int .i64 14, .int .i64 1800]] none], .agg [.int .i64 20, .list 3 [.agg [.int .i64 0, .int .i64 10, .int .i64 0], .agg [.int .i64 100, .int .i64 30, .int .i64 2000], .agg [.int .i64 200, .int .i64 40, .int .i64 6000]] none]] none]], Store.empty) := by kernel_rfl
end Go.Proofs.YtffacomibmgecaaGreat.Eng
