/-
  SuCFacts: the compiled code is what it is.
-/
import Derived.Test.YtlknncjnfgnlaaaCode1
import Derived.Test.YtlknncjnfgnlaaaProg
import Derived.KernelRfl
import Derived.Test.YtlknncjnfgnlaaaEngX
namespace Go.Proofs.Ytlknncjnfgnlaaa.Eng
open Go.Proofs
theorem suA_code : SuACode (xprog Try.prog [138, 135]) where
  h3 := by kernel_rfl
  h15 := by kernel_rfl
  h16 := by kernel_rfl
  h17 := by kernel_rfl
  h18 := by kernel_rfl
  h19 := by kernel_rfl
  h20 := by kernel_rfl
  h21 := by kernel_rfl
  h22 := by kernel_rfl
  h73 := by kernel_rfl
  h74 := by kernel_rfl
  h75 := by kernel_rfl
  h76 := by kernel_rfl
  h77 := by kernel_rfl
  h78 := by kernel_rfl
  h79 := by kernel_rfl
  h80 := by kernel_rfl
  h81 := by kernel_rfl
  h82 := by kernel_rfl
  h83 := by kernel_rfl
  h116 := by kernel_rfl
  h117 := by kernel_rfl
  h118 := by kernel_rfl
  h119 := by kernel_rfl
  h120 := by kernel_rfl
  h121 := by kernel_rfl
  h122 := by kernel_rfl
  h37 := by kernel_rfl
  h5 := by kernel_rfl
theorem suB_code : SuBCode (xprog Try.prog [138, 135]) where
  suA := suA_code
  h6 := by kernel_rfl
  h27 := by kernel_rfl
  h31 := by kernel_rfl
  h32 := by kernel_rfl
  h33 := by kernel_rfl
  h36 := by kernel_rfl
  h87 := by kernel_rfl
  h90 := by kernel_rfl
  h91 := by kernel_rfl
  h127 := by kernel_rfl
  h130 := by kernel_rfl
theorem suC_code : SuCCode (xprog Try.prog [138, 135]) where
  suB := suB_code
  h4 := by kernel_rfl
  h23 := by kernel_rfl
  h24 := by kernel_rfl
  h25 := by kernel_rfl
  h26 := by kernel_rfl
  h28 := by kernel_rfl
  h29 := by kernel_rfl
  h30 := by kernel_rfl
  h34 := by kernel_rfl
  h35 := by kernel_rfl
  h84 := by kernel_rfl
  h85 := by kernel_rfl
  h86 := by kernel_rfl
  h88 := by kernel_rfl
  h89 := by kernel_rfl
  h123 := by kernel_rfl
  h124 := by kernel_rfl
  h125 := by kernel_rfl
  h126 := by kernel_rfl
  h128 := by kernel_rfl
  h129 := by kernel_rfl
  h131 := by kernel_rfl
  h146 := by kernel_rfl
  h147 := by kernel_rfl
end Go.Proofs.Ytlknncjnfgnlaaa.Eng
