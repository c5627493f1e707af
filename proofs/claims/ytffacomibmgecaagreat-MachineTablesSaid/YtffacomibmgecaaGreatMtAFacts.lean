/-
  MtAFacts: the compiled code is what it is.
-/
import Derived.Test.YtffacomibmgecaaGreatCode1
import Derived.Test.YtffacomibmgecaaGreatProg
import Derived.KernelRfl
import Derived.Test.YtffacomibmgecaaGreatEngX
namespace Go.Proofs.YtffacomibmgecaaGreat.Eng
open Go.Proofs
theorem mtA_code : MtACode (xprog Tryz.prog [180, 1000190]) where
  h3 := by kernel_rfl
  h16 := by kernel_rfl
  h17 := by kernel_rfl
  h18 := by kernel_rfl
  h19 := by kernel_rfl
  h20 := by kernel_rfl
  h21 := by kernel_rfl
  h22 := by kernel_rfl
  h23 := by kernel_rfl
  h75 := by kernel_rfl
  h78 := by kernel_rfl
  h79 := by kernel_rfl
  h80 := by kernel_rfl
  h81 := by kernel_rfl
  h82 := by kernel_rfl
  h83 := by kernel_rfl
  h84 := by kernel_rfl
  h85 := by kernel_rfl
  h86 := by kernel_rfl
  h87 := by kernel_rfl
  h88 := by kernel_rfl
  h103 := by kernel_rfl
  h135 := by kernel_rfl
  h147 := by kernel_rfl
  h151 := by kernel_rfl
  h152 := by kernel_rfl
  h153 := by kernel_rfl
  h154 := by kernel_rfl
  h155 := by kernel_rfl
  h156 := by kernel_rfl
  h163 := by kernel_rfl
  h186 := by kernel_rfl
  h35 := by kernel_rfl
  h58 := by kernel_rfl
end Go.Proofs.YtffacomibmgecaaGreat.Eng
