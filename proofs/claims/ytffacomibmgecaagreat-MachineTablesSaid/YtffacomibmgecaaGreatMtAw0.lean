/-
  The example's table.
-/
import Derived.Test.YtffacomibmgecaaGreatEngX
namespace Go.Proofs.YtffacomibmgecaaGreat.Eng
def exTab : AVal := .agg [.list 2 [.agg [.int .i64 10, .list 3 [.agg [.int .i64 0, .int .i64 0, .int .i64 0], .agg [.int .i64 100, .int .i64 10, .int .i64 500], .agg [.int .i64 200, .int .i64 14, .int .i64 1800]] none], .agg [.int .i64 20, .list 3 [.agg [.int .i64 0, .int .i64 10, .int .i64 0], .agg [.int .i64 100, .int .i64 30, .int .i64 2000], .agg [.int .i64 200, .int .i64 40, .int .i64 6000]] none]] none]
end Go.Proofs.YtffacomibmgecaaGreat.Eng
