/-
  DxCFacts: the compiled code is what it is.
-/
import Derived.Test.YtgijgcmcpgepaaaCode1
import Derived.Test.YtgijgcmcpgepaaaProg
import Derived.KernelRfl
import Derived.Test.YtgijgcmcpgepaaaEngAw
namespace Go.Proofs.Ytgijgcmcpgepaaa.Eng
open Go.Proofs
theorem dxA_code : DxACode (xprogG Try.prog [2000073, 75, 105] [(12, 1, gAw)]) where
  h8 := by kernel_rfl
  h45 := by kernel_rfl
  h9 := by kernel_rfl
  h46 := by kernel_rfl
  h47 := by kernel_rfl
  h20 := by kernel_rfl
  h26 := by kernel_rfl
  h48 := by kernel_rfl
  h49 := by kernel_rfl
  h50 := by kernel_rfl
  h51 := by kernel_rfl
  h52 := by kernel_rfl
  h33 := by kernel_rfl
  h69 := by kernel_rfl
  h70 := by kernel_rfl
  h71 := by kernel_rfl
  h76 := by kernel_rfl
  h101 := by kernel_rfl
  h102 := by kernel_rfl
  h103 := by kernel_rfl
theorem dxN_code : DxNCode (xprogG Try.prog [2000073, 75, 105] [(12, 1, gAw)]) where
  h120 := by kernel_rfl
  h137 := by kernel_rfl
  h138 := by kernel_rfl
  h115 := by kernel_rfl
  h116 := by kernel_rfl
  h119 := by kernel_rfl
  h73 := by kernel_rfl
theorem dxB_code : DxBCode (xprogG Try.prog [2000073, 75, 105] [(12, 1, gAw)]) where
  dxA := dxA_code
  dxN := dxN_code
  h15 := by kernel_rfl
  h75 := by kernel_rfl
  h74 := by kernel_rfl
  h72 := by kernel_rfl
  h17 := by kernel_rfl
  h79 := by kernel_rfl
  h78 := by kernel_rfl
  h77 := by kernel_rfl
  h89 := by kernel_rfl
  h16 := by kernel_rfl
  h18 := by kernel_rfl
  h23 := by kernel_rfl
  h24 := by kernel_rfl
  h84 := by kernel_rfl
  h85 := by kernel_rfl
  h32 := by kernel_rfl
  h86 := by kernel_rfl
  h13 := by kernel_rfl
  h14 := by kernel_rfl
theorem dxC_code : DxCCode (xprogG Try.prog [2000073, 75, 105] [(12, 1, gAw)]) where
  dxB := dxB_code
  h80 := by kernel_rfl
  h81 := by kernel_rfl
  h82 := by kernel_rfl
  h83 := by kernel_rfl
  h121 := by kernel_rfl
  h139 := by kernel_rfl
  h140 := by kernel_rfl
  h141 := by kernel_rfl
  h122 := by kernel_rfl
  h123 := by kernel_rfl
  h130 := by kernel_rfl
  h19 := by kernel_rfl
  h21 := by kernel_rfl
  h22 := by kernel_rfl
  h25 := by kernel_rfl
  h27 := by kernel_rfl
  h28 := by kernel_rfl
  h29 := by kernel_rfl
  h87 := by kernel_rfl
  h88 := by kernel_rfl
  h3 := by kernel_rfl
end Go.Proofs.Ytgijgcmcpgepaaa.Eng
