/-
  What the rows share.
-/
import Derived.Test.YtgijgcmcpgepaaaRows
import Derived.Test.YtgijgcmcpgepaaaChecked
import Derived.Test.YtgijgcmcpgepaaaEngZ
import Derived.Test.YtgijgcmcpgepaaaDxTall
import Derived.ProofKit
namespace Go.Proofs.Ytgijgcmcpgepaaa
open Go.ChangeShapes Go.WideShapes Go.ChangeAt Go.RowKit Go.Proofs.Ytgijgcmcpgepaaa.Eng
set_option linter.unusedSimpArgs false
set_option linter.unusedVariables false

theorem own : ownKnob Try.prog.godebug = none := by kernel_rfl
theorem laid : laidOutB Try.prog = true := by kernel_rfl
theorem rowed : mapsRowed Try.prog = true := by kernel_rfl
theorem sliced : slicesOk Try.prog = true := by kernel_rfl
theorem drawn : Try.prog.follows .mixedOrders = true := dx_drawn

theorem known : Known Try.prog [2000073, 75, 105] (xprogG Try.prog [2000073, 75, 105] [(12, 1, gAw)]) :=
  known_aw dx_drawn dx_known3 dxaw [] (by simp)
theorem awake_run (σ : Store) : Run (xprogG Try.prog [2000073, 75, 105] [(12, 1, gAw)]) (.call 12) [] σ = some (.ret, [.bool true], σ) := awake_given _ _ _ _ σ
end Go.Proofs.Ytgijgcmcpgepaaa
