/-
  GvAFacts: the compiled code is what it is.
-/
import Derived.Test.YtenlllgjfbifbaaGreatCode1
import Derived.Test.YtenlllgjfbifbaaGreatProg
import Derived.KernelRfl
import Derived.Test.YtenlllgjfbifbaaGreatEngX
namespace Go.Proofs.YtenlllgjfbifbaaGreat.Eng
open Go.Proofs
theorem gvA_code : GvACode (xprog Tryz.prog [3000042, 4000003, 2000126, 2000129]) where
  h29 := by kernel_rfl
  h80 := by kernel_rfl
  h79 := by kernel_rfl
  h78 := by kernel_rfl
  h98 := by kernel_rfl
  h77 := by kernel_rfl
  h72 := by kernel_rfl
  h20 := by kernel_rfl
  h75 := by kernel_rfl
  h123 := by kernel_rfl
  h71 := by kernel_rfl
  h18 := by kernel_rfl
  h19 := by kernel_rfl
  h16 := by kernel_rfl
  h17 := by kernel_rfl
  h73 := by kernel_rfl
  h21 := by kernel_rfl
  h76 := by kernel_rfl
  h74 := by kernel_rfl
  h22 := by kernel_rfl
  h13 := by kernel_rfl
  h14 := by kernel_rfl
  h15 := by kernel_rfl
  h23 := by kernel_rfl
  h3 := by kernel_rfl
  h4 := by kernel_rfl
  h5 := by kernel_rfl
  h25 := by kernel_rfl
  h124 := by kernel_rfl
  h82 := by kernel_rfl
  h81 := by kernel_rfl
  h24 := by kernel_rfl
  h26 := by kernel_rfl
  h28 := by kernel_rfl
  h27 := by kernel_rfl
end Go.Proofs.YtenlllgjfbifbaaGreat.Eng
