/-
  PAIRS: the compiled code is what it is.
-/
import Derived.Test.YtbpflcilndinfaaLakeFacts
import Derived.Test.YtbpflcilndinfaaCode2
namespace Go.Proofs.Ytbpflcilndinfaa.Eng
open Go.Proofs
theorem pair_code : PairCode (xprog Try.prog [127, 1000143]) where
  tab := tab_code
  h89 := by kernel_rfl
  h127 := by kernel_rfl
  h83 := by kernel_rfl
  h125 := by kernel_rfl
  h34 := by kernel_rfl
  h36 := by kernel_rfl
  h29 := by kernel_rfl
  h31 := by kernel_rfl
  h32 := by kernel_rfl
  h30 := by kernel_rfl
  h85 := by kernel_rfl
  h84 := by kernel_rfl
  h86 := by kernel_rfl
  h126 := by kernel_rfl
  h35 := by kernel_rfl
  h33 := by kernel_rfl
  h43 := by kernel_rfl
  h37 := by kernel_rfl
  h38 := by kernel_rfl
  h39 := by kernel_rfl
  h90 := by kernel_rfl
theorem lawB_code : LawBCode (xprog Try.prog [127, 1000143]) where
  pair := pair_code
  h5 := by kernel_rfl
  h7 := by kernel_rfl
end Go.Proofs.Ytbpflcilndinfaa.Eng
