/-
  RUNS: the compiled code is what it is.
-/
import Derived.Test.YtbpflcilndinfaaPairFacts
import Derived.Test.YtbpflcilndinfaaReadFacts
import Derived.Test.YtbpflcilndinfaaCode2
namespace Go.Proofs.Ytbpflcilndinfaa.Eng
open Go.Proofs
theorem run_code : RunCode (xprog Try.prog [127, 1000143]) where
  pair := pair_code
  read := read_code
  h91 := by kernel_rfl
  h128 := by kernel_rfl
  h92 := by kernel_rfl
  h129 := by kernel_rfl
  h41 := by kernel_rfl
  h42 := by kernel_rfl
  h40 := by kernel_rfl
  h44 := by kernel_rfl
theorem lawD_code : LawDCode (xprog Try.prog [127, 1000143]) where
  run := run_code
  h6 := by kernel_rfl
end Go.Proofs.Ytbpflcilndinfaa.Eng
