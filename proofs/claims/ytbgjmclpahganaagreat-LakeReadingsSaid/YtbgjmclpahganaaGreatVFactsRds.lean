/-
  VFactsRds: the compiled code is what it is.
-/
import Derived.Test.YtbgjmclpahganaaGreatCode1
import Derived.Test.YtbgjmclpahganaaGreatCode2
import Derived.Test.YtbgjmclpahganaaGreatProg
import Derived.KernelRfl
import Derived.Test.YtbgjmclpahganaaGreatEngX
namespace Go.Proofs.YtbgjmclpahganaaGreat.Eng
open Go.Proofs
theorem sea_code : SeaCode (xprog Tryz.prog [90, 1000147]) where
  h8 := by kernel_rfl
  h27 := by kernel_rfl
  h77 := by kernel_rfl
  h78 := by kernel_rfl
  h74 := by kernel_rfl
  h79 := by kernel_rfl
  h92 := by kernel_rfl
  h113 := by kernel_rfl
  h114 := by kernel_rfl
theorem wide_code : WideCode (xprog Tryz.prog [90, 1000147]) where
  h158 := by kernel_rfl
  h147 := by kernel_rfl
  h126 := by kernel_rfl
  h148 := by kernel_rfl
  h156 := by kernel_rfl
  h160 := by kernel_rfl
  h155 := by kernel_rfl
  h157 := by kernel_rfl
  h149 := by kernel_rfl
  h145 := by kernel_rfl
  h146 := by kernel_rfl
  h124 := by kernel_rfl
  h125 := by kernel_rfl
  h151 := by kernel_rfl
  h136 := by kernel_rfl
  h152 := by kernel_rfl
  h159 := by kernel_rfl
  h153 := by kernel_rfl
  h139 := by kernel_rfl
  h140 := by kernel_rfl
  h100 := by kernel_rfl
  h99 := by kernel_rfl
  h137 := by kernel_rfl
  h138 := by kernel_rfl
  h123 := by kernel_rfl
  h118 := by kernel_rfl
  h117 := by kernel_rfl
theorem tab_code : TabCode (xprog Tryz.prog [90, 1000147]) where
  sea := sea_code
  wide := wide_code
  h29 := by kernel_rfl
  h121 := by kernel_rfl
  h31 := by kernel_rfl
  h39 := by kernel_rfl
  h88 := by kernel_rfl
  h89 := by kernel_rfl
  h108 := by kernel_rfl
  h82 := by kernel_rfl
  h53 := by kernel_rfl
  h60 := by kernel_rfl
  h143 := by kernel_rfl
  h144 := by kernel_rfl
  h91 := by kernel_rfl
  h122 := by kernel_rfl
  h130 := by kernel_rfl
  h69 := by kernel_rfl
  h67 := by kernel_rfl
  h68 := by kernel_rfl
  h109 := by kernel_rfl
  h134 := by kernel_rfl
  h135 := by kernel_rfl
  h119 := by kernel_rfl
  h59 := by kernel_rfl
  h116 := by kernel_rfl
  h131 := by kernel_rfl
  h97 := by kernel_rfl
  h115 := by kernel_rfl
  h72 := by kernel_rfl
  h73 := by kernel_rfl
  h154 := by kernel_rfl
  h132 := by kernel_rfl
  h150 := by kernel_rfl
  h110 := by kernel_rfl
  h111 := by kernel_rfl
  h76 := by kernel_rfl
  h133 := by kernel_rfl
theorem read_code : ReadCode (xprog Tryz.prog [90, 1000147]) where
  tab := tab_code
  h64 := by kernel_rfl
  h65 := by kernel_rfl
  h35 := by kernel_rfl
  h104 := by kernel_rfl
  h103 := by kernel_rfl
  h106 := by kernel_rfl
  h105 := by kernel_rfl
  h107 := by kernel_rfl
  h61 := by kernel_rfl
  h62 := by kernel_rfl
  h63 := by kernel_rfl
  h30 := by kernel_rfl
  h34 := by kernel_rfl
  h32 := by kernel_rfl
  h33 := by kernel_rfl
theorem vRds_code : VRdsCode (xprog Tryz.prog [90, 1000147]) where
  read := read_code
  h7 := by kernel_rfl
  h10 := by kernel_rfl
  h36 := by kernel_rfl
  h37 := by kernel_rfl
  h66 := by kernel_rfl
  h38 := by kernel_rfl
  h32 := by kernel_rfl
  h33 := by kernel_rfl
  h29 := by kernel_rfl
  h30 := by kernel_rfl
  h34 := by kernel_rfl
  h35 := by kernel_rfl
  h31 := by kernel_rfl
end Go.Proofs.YtbgjmclpahganaaGreat.Eng
