/-
  VFactsVio: the compiled code is what it is.
-/
import Derived.Test.YtbgjmclpahganaaGreatCode1
import Derived.Test.YtbgjmclpahganaaGreatCode2
import Derived.Test.YtbgjmclpahganaaGreatProg
import Derived.KernelRfl
import Derived.Test.YtbgjmclpahganaaGreatEngX
namespace Go.Proofs.YtbgjmclpahganaaGreat.Eng
open Go.Proofs
theorem sea_code : SeaCode (xprog Tryz.prog [90, 1000147]) where
  h8 := by kernel_rfl
  h27 := by kernel_rfl
  h77 := by kernel_rfl
  h78 := by kernel_rfl
  h74 := by kernel_rfl
  h79 := by kernel_rfl
  h92 := by kernel_rfl
  h113 := by kernel_rfl
  h114 := by kernel_rfl
theorem wide_code : WideCode (xprog Tryz.prog [90, 1000147]) where
  h158 := by kernel_rfl
  h147 := by kernel_rfl
  h126 := by kernel_rfl
  h148 := by kernel_rfl
  h156 := by kernel_rfl
  h160 := by kernel_rfl
  h155 := by kernel_rfl
  h157 := by kernel_rfl
  h149 := by kernel_rfl
  h145 := by kernel_rfl
  h146 := by kernel_rfl
  h124 := by kernel_rfl
  h125 := by kernel_rfl
  h151 := by kernel_rfl
  h136 := by kernel_rfl
  h152 := by kernel_rfl
  h159 := by kernel_rfl
  h153 := by kernel_rfl
  h139 := by kernel_rfl
  h140 := by kernel_rfl
  h100 := by kernel_rfl
  h99 := by kernel_rfl
  h137 := by kernel_rfl
  h138 := by kernel_rfl
  h123 := by kernel_rfl
  h118 := by kernel_rfl
  h117 := by kernel_rfl
theorem tab_code : TabCode (xprog Tryz.prog [90, 1000147]) where
  sea := sea_code
  wide := wide_code
  h29 := by kernel_rfl
  h121 := by kernel_rfl
  h31 := by kernel_rfl
  h39 := by kernel_rfl
  h88 := by kernel_rfl
  h89 := by kernel_rfl
  h108 := by kernel_rfl
  h82 := by kernel_rfl
  h53 := by kernel_rfl
  h60 := by kernel_rfl
  h143 := by kernel_rfl
  h144 := by kernel_rfl
  h91 := by kernel_rfl
  h122 := by kernel_rfl
  h130 := by kernel_rfl
  h69 := by kernel_rfl
  h67 := by kernel_rfl
  h68 := by kernel_rfl
  h109 := by kernel_rfl
  h134 := by kernel_rfl
  h135 := by kernel_rfl
  h119 := by kernel_rfl
  h59 := by kernel_rfl
  h116 := by kernel_rfl
  h131 := by kernel_rfl
  h97 := by kernel_rfl
  h115 := by kernel_rfl
  h72 := by kernel_rfl
  h73 := by kernel_rfl
  h154 := by kernel_rfl
  h132 := by kernel_rfl
  h150 := by kernel_rfl
  h110 := by kernel_rfl
  h111 := by kernel_rfl
  h76 := by kernel_rfl
  h133 := by kernel_rfl
theorem pair_code : PairCode (xprog Tryz.prog [90, 1000147]) where
  tab := tab_code
  h55 := by kernel_rfl
  h90 := by kernel_rfl
  h44 := by kernel_rfl
  h75 := by kernel_rfl
  h9 := by kernel_rfl
  h12 := by kernel_rfl
  h43 := by kernel_rfl
  h41 := by kernel_rfl
  h71 := by kernel_rfl
  h70 := by kernel_rfl
  h47 := by kernel_rfl
  h112 := by kernel_rfl
  h20 := by kernel_rfl
  h14 := by kernel_rfl
  h48 := by kernel_rfl
  h49 := by kernel_rfl
  h50 := by kernel_rfl
  h83 := by kernel_rfl
theorem read_code : ReadCode (xprog Tryz.prog [90, 1000147]) where
  tab := tab_code
  h64 := by kernel_rfl
  h65 := by kernel_rfl
  h35 := by kernel_rfl
  h104 := by kernel_rfl
  h103 := by kernel_rfl
  h106 := by kernel_rfl
  h105 := by kernel_rfl
  h107 := by kernel_rfl
  h61 := by kernel_rfl
  h62 := by kernel_rfl
  h63 := by kernel_rfl
  h30 := by kernel_rfl
  h34 := by kernel_rfl
  h32 := by kernel_rfl
  h33 := by kernel_rfl
theorem run_code : RunCode (xprog Tryz.prog [90, 1000147]) where
  pair := pair_code
  read := read_code
  h45 := by kernel_rfl
  h80 := by kernel_rfl
  h46 := by kernel_rfl
  h81 := by kernel_rfl
  h11 := by kernel_rfl
  h13 := by kernel_rfl
  h15 := by kernel_rfl
  h17 := by kernel_rfl
theorem vRuns_code : VRunsCode (xprog Tryz.prog [90, 1000147]) where
  run := run_code
  h3 := by kernel_rfl
  h10 := by kernel_rfl
  h16 := by kernel_rfl
theorem vVio_code : VVioCode (xprog Tryz.prog [90, 1000147]) where
  runs := vRuns_code
  h4 := by kernel_rfl
  h18 := by kernel_rfl
  h19 := by kernel_rfl
  h20 := by kernel_rfl
  h21 := by kernel_rfl
  h22 := by kernel_rfl
  h23 := by kernel_rfl
  h24 := by kernel_rfl
  h51 := by kernel_rfl
  h52 := by kernel_rfl
  h53 := by kernel_rfl
  h54 := by kernel_rfl
  h56 := by kernel_rfl
  h57 := by kernel_rfl
  h84 := by kernel_rfl
  h85 := by kernel_rfl
  h86 := by kernel_rfl
  h87 := by kernel_rfl
  h93 := by kernel_rfl
  h94 := by kernel_rfl
  h95 := by kernel_rfl
  h96 := by kernel_rfl
  h97 := by kernel_rfl
  h98 := by kernel_rfl
  h99 := by kernel_rfl
  h100 := by kernel_rfl
  h101 := by kernel_rfl
  h120 := by kernel_rfl
  h122 := by kernel_rfl
  h127 := by kernel_rfl
  h141 := by kernel_rfl
  h142 := by kernel_rfl
  h89 := by kernel_rfl
end Go.Proofs.YtbgjmclpahganaaGreat.Eng
