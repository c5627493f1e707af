/-
  LAKE: the compiled code is what it is.
-/
import Derived.Test.YtbpflcilndinfaaCode1
import Derived.Test.YtbpflcilndinfaaProg
import Derived.KernelRfl
import Derived.Test.YtbpflcilndinfaaEngX
namespace Go.Proofs.Ytbpflcilndinfaa.Eng
open Go.Proofs
theorem sea_code2 : SeaCode (xprog Try.prog [127, 1000143]) where
  h8 := by kernel_rfl
  h11 := by kernel_rfl
  h25 := by kernel_rfl
  h45 := by kernel_rfl
  h46 := by kernel_rfl
  h47 := by kernel_rfl
  h58 := by kernel_rfl
  h59 := by kernel_rfl
  h60 := by kernel_rfl
  h93 := by kernel_rfl
  h94 := by kernel_rfl
  h95 := by kernel_rfl
  h96 := by kernel_rfl
  h97 := by kernel_rfl
  h106 := by kernel_rfl
  h130 := by kernel_rfl
theorem wide_code : WideCode (xprog Try.prog [127, 1000143]) where
  h153 := by kernel_rfl
  h143 := by kernel_rfl
  h145 := by kernel_rfl
  h149 := by kernel_rfl
  h156 := by kernel_rfl
  h162 := by kernel_rfl
  h158 := by kernel_rfl
  h157 := by kernel_rfl
  h147 := by kernel_rfl
  h148 := by kernel_rfl
  h142 := by kernel_rfl
  h114 := by kernel_rfl
  h115 := by kernel_rfl
  h146 := by kernel_rfl
  h117 := by kernel_rfl
  h154 := by kernel_rfl
  h161 := by kernel_rfl
  h155 := by kernel_rfl
  h144 := by kernel_rfl
  h116 := by kernel_rfl
  h121 := by kernel_rfl
  h73 := by kernel_rfl
  h118 := by kernel_rfl
  h119 := by kernel_rfl
  h120 := by kernel_rfl
  h122 := by kernel_rfl
  h123 := by kernel_rfl
theorem tab_code : TabCode (xprog Try.prog [127, 1000143]) where
  sea := sea_code2
  wide := wide_code
  h12 := by kernel_rfl
  h13 := by kernel_rfl
  h14 := by kernel_rfl
  h15 := by kernel_rfl
  h16 := by kernel_rfl
  h17 := by kernel_rfl
  h18 := by kernel_rfl
  h19 := by kernel_rfl
  h20 := by kernel_rfl
  h21 := by kernel_rfl
  h22 := by kernel_rfl
  h23 := by kernel_rfl
  h24 := by kernel_rfl
  h26 := by kernel_rfl
  h61 := by kernel_rfl
  h62 := by kernel_rfl
  h63 := by kernel_rfl
  h64 := by kernel_rfl
  h65 := by kernel_rfl
  h66 := by kernel_rfl
  h67 := by kernel_rfl
  h68 := by kernel_rfl
  h69 := by kernel_rfl
  h70 := by kernel_rfl
  h71 := by kernel_rfl
  h72 := by kernel_rfl
  h74 := by kernel_rfl
  h75 := by kernel_rfl
  h76 := by kernel_rfl
  h77 := by kernel_rfl
  h78 := by kernel_rfl
  h79 := by kernel_rfl
  h80 := by kernel_rfl
  h87 := by kernel_rfl
  h88 := by kernel_rfl
  h107 := by kernel_rfl
  h108 := by kernel_rfl
  h109 := by kernel_rfl
  h110 := by kernel_rfl
  h111 := by kernel_rfl
  h112 := by kernel_rfl
  h113 := by kernel_rfl
  h124 := by kernel_rfl
theorem lawA_code : LawACode (xprog Try.prog [127, 1000143]) where
  tab := tab_code
  h3 := by kernel_rfl
  h4 := by kernel_rfl
  h27 := by kernel_rfl
  h28 := by kernel_rfl
  h81 := by kernel_rfl
  h82 := by kernel_rfl
end Go.Proofs.Ytbpflcilndinfaa.Eng
