/-
  What the rows share.
-/
import Derived.Test.YtffacomibmgecaaGreatRows
import Derived.Test.YtffacomibmgecaaGreatChecked
import Derived.Test.YtffacomibmgecaaGreatEngZ
import Derived.Test.YtffacomibmgecaaGreatMtPAwake
import Derived.ProofKit
namespace Go.Proofs.YtffacomibmgecaaGreat
open Go.ChangeShapes Go.WideShapes Go.ChangeAt Go.RowKit Go.Proofs.YtffacomibmgecaaGreat.Eng
set_option linter.unusedSimpArgs false
set_option linter.unusedVariables false

theorem own : ownKnob Tryz.prog.godebug = none := by kernel_rfl
theorem laid : laidOutB Tryz.prog = true := by kernel_rfl
theorem rowed : mapsRowed Tryz.prog = true := by kernel_rfl
theorem sliced : slicesOk Tryz.prog = true := by kernel_rfl
theorem drawn : Tryz.prog.follows .mixedOrders = true := by kernel_rfl

theorem awake_run (σ : Store) : Run (xprog Tryz.prog [180, 1000190]) (.call 15) [] σ = some (.ret, [.bool true], σ) := awake_true σ
end Go.Proofs.YtffacomibmgecaaGreat
