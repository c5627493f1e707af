/-
  What the rows share.
-/
import Derived.Test.YtenlllgjfbifbaaGreatRows
import Derived.Test.YtenlllgjfbifbaaGreatChecked
import Derived.Test.YtenlllgjfbifbaaGreatEngZ
import Derived.Test.YtenlllgjfbifbaaGreatGvPAwake
import Derived.ProofKit
namespace Go.Proofs.YtenlllgjfbifbaaGreat
open Go.ChangeShapes Go.WideShapes Go.ChangeAt Go.RowKit Go.Proofs.YtenlllgjfbifbaaGreat.Eng
set_option linter.unusedSimpArgs false
set_option linter.unusedVariables false

theorem own : ownKnob Tryz.prog.godebug = none := by kernel_rfl
theorem laid : laidOutB Tryz.prog = true := by kernel_rfl
theorem rowed : mapsRowed Tryz.prog = true := by kernel_rfl
theorem sliced : slicesOk Tryz.prog = true := by kernel_rfl
theorem drawn : Tryz.prog.follows .mixedOrders = true := by kernel_rfl

theorem awake_run (σ : Store) : Run (xprog Tryz.prog [3000042, 4000003, 2000126, 2000129]) (.call 12) [] σ = some (.ret, [.bool true], σ) := by
  have h := isTrue_eq awake_true
  have h0 : Run (xprog Tryz.prog [3000042, 4000003, 2000126, 2000129]) (.call 12) [] Store.empty = some (.ret, [.bool true], Store.empty) := (Run_iff _ _ _ _ _).mpr ⟨512, h⟩
  exact pure_any (by rfl) h0 σ
end Go.Proofs.YtenlllgjfbifbaaGreat
