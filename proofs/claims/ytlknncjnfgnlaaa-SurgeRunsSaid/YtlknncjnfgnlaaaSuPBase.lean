/-
  What the rows share.
-/
import Derived.Test.YtlknncjnfgnlaaaRows
import Derived.Test.YtlknncjnfgnlaaaChecked
import Derived.Test.YtlknncjnfgnlaaaEngZ
import Derived.Test.YtlknncjnfgnlaaaSuPAwake
import Derived.ProofKit
namespace Go.Proofs.Ytlknncjnfgnlaaa
open Go.ChangeShapes Go.WideShapes Go.ChangeAt Go.RowKit Go.Proofs.Ytlknncjnfgnlaaa.Eng
set_option linter.unusedSimpArgs false
set_option linter.unusedVariables false

theorem own : ownKnob Try.prog.godebug = none := by kernel_rfl
theorem laid : laidOutB Try.prog = true := by kernel_rfl
theorem rowed : mapsRowed Try.prog = true := by kernel_rfl
theorem sliced : slicesOk Try.prog = true := by kernel_rfl
theorem drawn : Try.prog.follows .mixedOrders = true := by kernel_rfl

theorem awake_run (σ : Store) : Run (xprog Try.prog [138, 135]) (.call 14) [] σ = some (.ret, [.bool true], σ) := by
  have h := isTrue_eq awake_true
  have h0 : Run (xprog Try.prog [138, 135]) (.call 14) [] Store.empty = some (.ret, [.bool true], Store.empty) := (Run_iff _ _ _ _ _).mpr ⟨256, h⟩
  exact pure_any (by rfl) h0 σ
end Go.Proofs.Ytlknncjnfgnlaaa
