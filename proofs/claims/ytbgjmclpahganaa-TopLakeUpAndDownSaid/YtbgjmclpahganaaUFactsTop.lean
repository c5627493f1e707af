/-
  UFactsTop: the compiled code is what it is.
-/
import Derived.Test.YtbgjmclpahganaaCode1
import Derived.Test.YtbgjmclpahganaaProg
import Derived.KernelRfl
import Derived.Test.YtbgjmclpahganaaEngX
namespace Go.Proofs.Ytbgjmclpahganaa.Eng
open Go.Proofs
theorem sea_code : SeaCode (xprog Try.prog [64, 1000087]) where
  h11 := by kernel_rfl
  h42 := by kernel_rfl
  h43 := by kernel_rfl
  h39 := by kernel_rfl
  h44 := by kernel_rfl
  h52 := by kernel_rfl
  h65 := by kernel_rfl
  h66 := by kernel_rfl
theorem wide_code : WideCode (xprog Try.prog [64, 1000087]) where
  h92 := by kernel_rfl
  h87 := by kernel_rfl
  h89 := by kernel_rfl
  h96 := by kernel_rfl
  h98 := by kernel_rfl
  h101 := by kernel_rfl
  h97 := by kernel_rfl
  h99 := by kernel_rfl
  h91 := by kernel_rfl
  h90 := by kernel_rfl
  h86 := by kernel_rfl
  h82 := by kernel_rfl
  h83 := by kernel_rfl
  h95 := by kernel_rfl
  h93 := by kernel_rfl
  h100 := by kernel_rfl
  h94 := by kernel_rfl
  h88 := by kernel_rfl
  h84 := by kernel_rfl
  h75 := by kernel_rfl
theorem tab_code : TabCode (xprog Try.prog [64, 1000087]) where
  sea := sea_code
  wide := wide_code
  h17 := by kernel_rfl
  h72 := by kernel_rfl
  h26 := by kernel_rfl
  h15 := by kernel_rfl
  h60 := by kernel_rfl
  h63 := by kernel_rfl
  h35 := by kernel_rfl
  h34 := by kernel_rfl
  h62 := by kernel_rfl
  h80 := by kernel_rfl
  h81 := by kernel_rfl
  h56 := by kernel_rfl
  h77 := by kernel_rfl
  h33 := by kernel_rfl
  h31 := by kernel_rfl
  h32 := by kernel_rfl
  h57 := by kernel_rfl
  h70 := by kernel_rfl
  h71 := by kernel_rfl
  h76 := by kernel_rfl
  h61 := by kernel_rfl
  h55 := by kernel_rfl
  h54 := by kernel_rfl
  h85 := by kernel_rfl
  h73 := by kernel_rfl
  h58 := by kernel_rfl
  h59 := by kernel_rfl
  h41 := by kernel_rfl
  h74 := by kernel_rfl
theorem pair_code : PairCode (xprog Try.prog [64, 1000087]) where
  tab := tab_code
  h38 := by kernel_rfl
  h64 := by kernel_rfl
  h22 := by kernel_rfl
  h40 := by kernel_rfl
  h5 := by kernel_rfl
  h9 := by kernel_rfl
  h13 := by kernel_rfl
  h30 := by kernel_rfl
  h29 := by kernel_rfl
  h25 := by kernel_rfl
  h53 := by kernel_rfl
  h18 := by kernel_rfl
  h6 := by kernel_rfl
  h19 := by kernel_rfl
  h37 := by kernel_rfl
theorem read_code : ReadCode (xprog Try.prog [64, 1000087]) where
  tab := tab_code
theorem run_code : RunCode (xprog Try.prog [64, 1000087]) where
  pair := pair_code
  read := read_code
  h23 := by kernel_rfl
  h45 := by kernel_rfl
  h24 := by kernel_rfl
  h46 := by kernel_rfl
  h8 := by kernel_rfl
  h10 := by kernel_rfl
  h21 := by kernel_rfl
theorem vRuns_code : VRunsCode (xprog Try.prog [64, 1000087]) where
  run := run_code
theorem vVio_code : VVioCode (xprog Try.prog [64, 1000087]) where
  runs := vRuns_code
  h12 := by kernel_rfl
  h18 := by kernel_rfl
  h20 := by kernel_rfl
  h7 := by kernel_rfl
  h27 := by kernel_rfl
  h28 := by kernel_rfl
  h34 := by kernel_rfl
  h36 := by kernel_rfl
  h48 := by kernel_rfl
  h47 := by kernel_rfl
  h49 := by kernel_rfl
  h50 := by kernel_rfl
  h51 := by kernel_rfl
  h67 := by kernel_rfl
  h68 := by kernel_rfl
  h75 := by kernel_rfl
  h69 := by kernel_rfl
  h77 := by kernel_rfl
  h78 := by kernel_rfl
  h79 := by kernel_rfl
  h63 := by kernel_rfl
theorem uVTop_code : UVTopCode (xprog Try.prog [64, 1000087]) where
  vio := vVio_code
  h3 := by kernel_rfl
  h4 := by kernel_rfl
end Go.Proofs.Ytbgjmclpahganaa.Eng
