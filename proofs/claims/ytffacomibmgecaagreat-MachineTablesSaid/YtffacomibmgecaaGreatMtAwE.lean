/-
  An example: the call of 39.
-/
import Derived.Test.YtffacomibmgecaaGreatEngX
import Derived.Test.YtffacomibmgecaaGreatProg
import Derived.KernelRfl
import Derived.Test.YtffacomibmgecaaGreatMtAw0
namespace Go.Proofs.YtffacomibmgecaaGreat.Eng
open Go.Proofs
theorem exam39 : run (xprog Tryz.prog [180, 1000190]) 256 (.call 39) [exTab, .agg [.int .i64 15, .int .i64 1], .agg [.int .i64 150, .int .i64 10, .int .i64 1]] Store.empty = some (.ret, [.tup [.list 6 [.agg [.int .i64 37100, .int .i64 251, .int .i64 5500, .int .i64 251, .int .i64 469750, .int .i64 251]] none, .int .i64 0]], Store.empty) := by kernel_rfl
end Go.Proofs.YtffacomibmgecaaGreat.Eng
