/-
  The examples: what is called, and what comes back.
-/
import Derived.Test.YtgijgcmcpgepaaaEngTab
import Derived.Test.YtgijgcmcpgepaaaProg
import Derived.KernelRfl
namespace Go.Proofs.Ytgijgcmcpgepaaa.Eng
def dxPl : AVal := .agg [.int .i64 0, .int .i64 10, .list 4 [.agg [.str ⟨#[114, 101, 115, 116]⟩, .int .i64 0, .int .i64 0, .int .i64 0], .agg [.str ⟨#[112, 117, 109, 112]⟩, .int .i64 3, .int .i64 (-4), .int .i64 5], .agg [.str ⟨#[116, 117, 114, 98, 105, 110, 101]⟩, .int .i64 (-3), .int .i64 3, .int .i64 2]] none]
def dxTk : AVal := .agg [.int .i64 4, .int .i64 0, .int .i64 1, .list 3 [.agg [.int .i64 2, .int .i64 1, .int .i64 0], .agg [.int .i64 12, .int .i64 10, .int .i64 1]] none]
def dxRv : AVal := .list 3 [.agg [.str ⟨#[97]⟩, .int .i64 5, .int .i64 3], .agg [.str ⟨#[98]⟩, .int .i64 4, .int .i64 2], .agg [.str ⟨#[99]⟩, .int .i64 9, .int .i64 5]] none
def dxTT : AVal := .agg [.int .i64 0, .int .i64 10, .list 4 [.agg [.str ⟨#[114, 101, 115, 116]⟩, .int .i64 0, .int .i64 0, .int .i64 0], .agg [.str ⟨#[112, 117, 109, 112]⟩, .int .i64 3, .int .i64 (-4), .int .i64 5], .agg [.str ⟨#[116, 117, 114, 98, 105, 110, 101]⟩, .int .i64 (-3), .int .i64 3, .int .i64 2]] none, .int .i64 4, .int .i64 0, .int .i64 1, .list 3 [.agg [.int .i64 2, .int .i64 1, .int .i64 0], .agg [.int .i64 12, .int .i64 10, .int .i64 1]] none]
def dxL0 : AVal := .list 1 [.int .i64 16, .int .i64 21, .int .i64 16, .int .i64 17, .int .i64 22, .int .i64 17, .int .i64 28, .int .i64 28, .int .i64 28, .int .i64 29, .int .i64 29, .int .i64 29, .int .i64 30, .int .i64 30, .int .i64 30, .int .i64 31, .int .i64 31, .int .i64 33, .int .i64 32, .int .i64 32, .int .i64 34, .int .i64 33, .int .i64 33, .int .i64 35, .int .i64 34, .int .i64 34, .int .i64 36, .int .i64 35, .int .i64 35, .int .i64 37, .int .i64 36, .int .i64 36, .int .i64 38] none
def dxL1 : AVal := .list 1 [.int .i64 1, .int .i64 1, .int .i64 1, .int .i64 2, .int .i64 2, .int .i64 2, .int .i64 28, .int .i64 28, .int .i64 30, .int .i64 29, .int .i64 29, .int .i64 31, .int .i64 30, .int .i64 30, .int .i64 32, .int .i64 31, .int .i64 31, .int .i64 33, .int .i64 32, .int .i64 32, .int .i64 34, .int .i64 33, .int .i64 33, .int .i64 35, .int .i64 34, .int .i64 34, .int .i64 36, .int .i64 35, .int .i64 35, .int .i64 37, .int .i64 36, .int .i64 36, .int .i64 38] none
def dxL2 : AVal := .list 1 [.int .i64 0, .int .i64 0, .int .i64 0, .int .i64 1, .int .i64 1, .int .i64 1, .int .i64 2, .int .i64 2, .int .i64 2, .int .i64 3, .int .i64 3, .int .i64 3, .int .i64 4, .int .i64 4, .int .i64 4, .int .i64 5, .int .i64 5, .int .i64 5, .int .i64 6, .int .i64 6, .int .i64 6, .int .i64 7, .int .i64 7, .int .i64 7, .int .i64 8, .int .i64 8, .int .i64 8, .int .i64 9, .int .i64 9, .int .i64 9, .int .i64 10, .int .i64 10, .int .i64 10] none
def dxBC0 : Tab := [([dxTT, .int .i64 0, .int .i64 0, .int .i64 0, dxL1], .agg [.int .i64 1, .int .i64 3, .int .i64 16]),
  ([dxTT, .int .i64 0, .int .i64 1, .int .i64 1, dxL1], .agg [.int .i64 1, .int .i64 4, .int .i64 22]),
  ([dxTT, .int .i64 0, .int .i64 2, .int .i64 2, dxL1], .agg [.int .i64 0, .int .i64 2, .int .i64 28]),
  ([dxTT, .int .i64 0, .int .i64 4, .int .i64 0, dxL1], .agg [.int .i64 0, .int .i64 4, .int .i64 30]),
  ([dxTT, .int .i64 0, .int .i64 5, .int .i64 1, dxL1], .agg [.int .i64 0, .int .i64 5, .int .i64 31]),
  ([dxTT, .int .i64 0, .int .i64 6, .int .i64 2, dxL1], .agg [.int .i64 2, .int .i64 3, .int .i64 34]),
  ([dxTT, .int .i64 0, .int .i64 8, .int .i64 0, dxL1], .agg [.int .i64 0, .int .i64 8, .int .i64 34]),
  ([dxTT, .int .i64 0, .int .i64 9, .int .i64 1, dxL1], .agg [.int .i64 0, .int .i64 9, .int .i64 35]),
  ([dxTT, .int .i64 0, .int .i64 10, .int .i64 2, dxL1], .agg [.int .i64 2, .int .i64 7, .int .i64 38]),
  ([dxTT, .int .i64 1, .int .i64 1, .int .i64 0, dxL2], .agg [.int .i64 0, .int .i64 2, .int .i64 2]),
  ([dxTT, .int .i64 1, .int .i64 2, .int .i64 1, dxL2], .agg [.int .i64 2, .int .i64 0, .int .i64 28]),
  ([dxTT, .int .i64 1, .int .i64 3, .int .i64 2, dxL2], .agg [.int .i64 2, .int .i64 1, .int .i64 31]),
  ([dxTT, .int .i64 1, .int .i64 5, .int .i64 0, dxL2], .agg [.int .i64 2, .int .i64 3, .int .i64 31]),
  ([dxTT, .int .i64 1, .int .i64 6, .int .i64 1, dxL2], .agg [.int .i64 2, .int .i64 4, .int .i64 32]),
  ([dxTT, .int .i64 1, .int .i64 7, .int .i64 2, dxL2], .agg [.int .i64 2, .int .i64 5, .int .i64 35]),
  ([dxTT, .int .i64 1, .int .i64 9, .int .i64 0, dxL2], .agg [.int .i64 2, .int .i64 7, .int .i64 35]),
  ([dxTT, .int .i64 1, .int .i64 10, .int .i64 1, dxL2], .agg [.int .i64 2, .int .i64 8, .int .i64 36])]
def dxBC1 : Tab := [([dxTT, .int .i64 0, .int .i64 0, .int .i64 1, dxL1], .agg [.int .i64 1, .int .i64 3, .int .i64 21]),
  ([dxTT, .int .i64 0, .int .i64 1, .int .i64 2, dxL1], .agg [.int .i64 1, .int .i64 4, .int .i64 17]),
  ([dxTT, .int .i64 0, .int .i64 3, .int .i64 0, dxL1], .agg [.int .i64 0, .int .i64 3, .int .i64 29]),
  ([dxTT, .int .i64 0, .int .i64 4, .int .i64 1, dxL1], .agg [.int .i64 0, .int .i64 4, .int .i64 30]),
  ([dxTT, .int .i64 0, .int .i64 5, .int .i64 2, dxL1], .agg [.int .i64 2, .int .i64 2, .int .i64 33]),
  ([dxTT, .int .i64 0, .int .i64 7, .int .i64 0, dxL1], .agg [.int .i64 0, .int .i64 7, .int .i64 33]),
  ([dxTT, .int .i64 0, .int .i64 8, .int .i64 1, dxL1], .agg [.int .i64 0, .int .i64 8, .int .i64 34]),
  ([dxTT, .int .i64 0, .int .i64 9, .int .i64 2, dxL1], .agg [.int .i64 2, .int .i64 6, .int .i64 37]),
  ([dxTT, .int .i64 1, .int .i64 0, .int .i64 0, dxL2], .agg [.int .i64 0, .int .i64 1, .int .i64 1]),
  ([dxTT, .int .i64 1, .int .i64 1, .int .i64 1, dxL2], .agg [.int .i64 0, .int .i64 2, .int .i64 2]),
  ([dxTT, .int .i64 1, .int .i64 2, .int .i64 2, dxL2], .agg [.int .i64 2, .int .i64 0, .int .i64 30]),
  ([dxTT, .int .i64 1, .int .i64 4, .int .i64 0, dxL2], .agg [.int .i64 2, .int .i64 2, .int .i64 30]),
  ([dxTT, .int .i64 1, .int .i64 5, .int .i64 1, dxL2], .agg [.int .i64 2, .int .i64 3, .int .i64 31]),
  ([dxTT, .int .i64 1, .int .i64 6, .int .i64 2, dxL2], .agg [.int .i64 2, .int .i64 4, .int .i64 34]),
  ([dxTT, .int .i64 1, .int .i64 8, .int .i64 0, dxL2], .agg [.int .i64 2, .int .i64 6, .int .i64 34]),
  ([dxTT, .int .i64 1, .int .i64 9, .int .i64 1, dxL2], .agg [.int .i64 2, .int .i64 7, .int .i64 35]),
  ([dxTT, .int .i64 1, .int .i64 10, .int .i64 2, dxL2], .agg [.int .i64 2, .int .i64 8, .int .i64 38])]
def dxBC2 : Tab := [([dxTT, .int .i64 0, .int .i64 0, .int .i64 2, dxL1], .agg [.int .i64 1, .int .i64 3, .int .i64 16]),
  ([dxTT, .int .i64 0, .int .i64 2, .int .i64 0, dxL1], .agg [.int .i64 0, .int .i64 2, .int .i64 28]),
  ([dxTT, .int .i64 0, .int .i64 3, .int .i64 1, dxL1], .agg [.int .i64 0, .int .i64 3, .int .i64 29]),
  ([dxTT, .int .i64 0, .int .i64 4, .int .i64 2, dxL1], .agg [.int .i64 0, .int .i64 4, .int .i64 30]),
  ([dxTT, .int .i64 0, .int .i64 6, .int .i64 0, dxL1], .agg [.int .i64 0, .int .i64 6, .int .i64 32]),
  ([dxTT, .int .i64 0, .int .i64 7, .int .i64 1, dxL1], .agg [.int .i64 0, .int .i64 7, .int .i64 33]),
  ([dxTT, .int .i64 0, .int .i64 8, .int .i64 2, dxL1], .agg [.int .i64 2, .int .i64 5, .int .i64 36]),
  ([dxTT, .int .i64 0, .int .i64 10, .int .i64 0, dxL1], .agg [.int .i64 0, .int .i64 10, .int .i64 36]),
  ([dxTT, .int .i64 1, .int .i64 0, .int .i64 1, dxL2], .agg [.int .i64 0, .int .i64 1, .int .i64 1]),
  ([dxTT, .int .i64 1, .int .i64 1, .int .i64 2, dxL2], .agg [.int .i64 0, .int .i64 2, .int .i64 2]),
  ([dxTT, .int .i64 1, .int .i64 3, .int .i64 0, dxL2], .agg [.int .i64 2, .int .i64 1, .int .i64 29]),
  ([dxTT, .int .i64 1, .int .i64 4, .int .i64 1, dxL2], .agg [.int .i64 2, .int .i64 2, .int .i64 30]),
  ([dxTT, .int .i64 1, .int .i64 5, .int .i64 2, dxL2], .agg [.int .i64 2, .int .i64 3, .int .i64 33]),
  ([dxTT, .int .i64 1, .int .i64 7, .int .i64 0, dxL2], .agg [.int .i64 2, .int .i64 5, .int .i64 33]),
  ([dxTT, .int .i64 1, .int .i64 8, .int .i64 1, dxL2], .agg [.int .i64 2, .int .i64 6, .int .i64 34]),
  ([dxTT, .int .i64 1, .int .i64 9, .int .i64 2, dxL2], .agg [.int .i64 2, .int .i64 7, .int .i64 37])]
def dxBC3 : Tab := [([dxTT, .int .i64 0, .int .i64 1, .int .i64 0, dxL1], .agg [.int .i64 1, .int .i64 4, .int .i64 17]),
  ([dxTT, .int .i64 0, .int .i64 2, .int .i64 1, dxL1], .agg [.int .i64 0, .int .i64 2, .int .i64 28]),
  ([dxTT, .int .i64 0, .int .i64 3, .int .i64 2, dxL1], .agg [.int .i64 0, .int .i64 3, .int .i64 29]),
  ([dxTT, .int .i64 0, .int .i64 5, .int .i64 0, dxL1], .agg [.int .i64 0, .int .i64 5, .int .i64 31]),
  ([dxTT, .int .i64 0, .int .i64 6, .int .i64 1, dxL1], .agg [.int .i64 0, .int .i64 6, .int .i64 32]),
  ([dxTT, .int .i64 0, .int .i64 7, .int .i64 2, dxL1], .agg [.int .i64 2, .int .i64 4, .int .i64 35]),
  ([dxTT, .int .i64 0, .int .i64 9, .int .i64 0, dxL1], .agg [.int .i64 0, .int .i64 9, .int .i64 35]),
  ([dxTT, .int .i64 0, .int .i64 10, .int .i64 1, dxL1], .agg [.int .i64 0, .int .i64 10, .int .i64 36]),
  ([dxTT, .int .i64 1, .int .i64 0, .int .i64 2, dxL2], .agg [.int .i64 0, .int .i64 1, .int .i64 1]),
  ([dxTT, .int .i64 1, .int .i64 2, .int .i64 0, dxL2], .agg [.int .i64 2, .int .i64 0, .int .i64 28]),
  ([dxTT, .int .i64 1, .int .i64 3, .int .i64 1, dxL2], .agg [.int .i64 2, .int .i64 1, .int .i64 29]),
  ([dxTT, .int .i64 1, .int .i64 4, .int .i64 2, dxL2], .agg [.int .i64 2, .int .i64 2, .int .i64 32]),
  ([dxTT, .int .i64 1, .int .i64 6, .int .i64 0, dxL2], .agg [.int .i64 2, .int .i64 4, .int .i64 32]),
  ([dxTT, .int .i64 1, .int .i64 7, .int .i64 1, dxL2], .agg [.int .i64 2, .int .i64 5, .int .i64 33]),
  ([dxTT, .int .i64 1, .int .i64 8, .int .i64 2, dxL2], .agg [.int .i64 2, .int .i64 6, .int .i64 36]),
  ([dxTT, .int .i64 1, .int .i64 10, .int .i64 0, dxL2], .agg [.int .i64 2, .int .i64 8, .int .i64 36])]
def dxBC : Tab := dxBC0 ++ dxBC1 ++ dxBC2 ++ dxBC3
def dxPo : Tab := [([dxTT, .fn 91 [] []], .list 1 [dxL0, dxL1, dxL2] none)]
def dxBP : Tab := [([dxPl, dxTk], .tup [.list 1 [.int .i64 0, .int .i64 2] none, .int .i64 30, .int .i64 0])]
def dxRO : Tab := [([dxPl, dxTk, .agg [.list 1 [.int .i64 0, .int .i64 2] none, .int .i64 2]], .tup [.list 1 [.int .i64 1, .int .i64 1] none, .int .i64 0])]
def dxBO : Tab := [([dxRv], .tup [.list 1 [.int .i64 0, .int .i64 1, .int .i64 2] none, .int .i64 1, .int .i64 0])]
def dxRA : Tab := [([dxPl, dxTk, .int .i64 2], .tup [.list 1 [.int .i64 2, .int .i64 5, .int .i64 8] none, .int .i64 0])]
def dxT1 : List (FuncId × Nat × Tab) := [(125, 5, dxBC)]
def dxT2 : List (FuncId × Nat × Tab) := [(92, 2, dxPo), (125, 5, dxBC)]
def dxT3 : List (FuncId × Nat × Tab) := [(30, 2, dxBP), (36, 3, dxRO), (56, 1, dxBO), (31, 3, dxRA)]
end Go.Proofs.Ytgijgcmcpgepaaa.Eng

/-
  Examples, by the kernel.
-/
namespace Go.Proofs.Ytgijgcmcpgepaaa.Eng
open Go.Proofs
theorem dxpo : dxPo.all (rowB (xprogG Try.prog [2000073, 75, 105] (tabs dxT1)) 256 92 2) = true := by kernel_rfl
end Go.Proofs.Ytgijgcmcpgepaaa.Eng

/-
  Examples, by the kernel.
-/
namespace Go.Proofs.Ytgijgcmcpgepaaa.Eng
open Go.Proofs
theorem dxro : dxRO.all (rowB (xprog Try.prog [2000073, 75, 105, 4000003, 5000003, 2000135]) 256 36 3) = true := by kernel_rfl
end Go.Proofs.Ytgijgcmcpgepaaa.Eng

/-
  Examples, by the kernel.
-/
namespace Go.Proofs.Ytgijgcmcpgepaaa.Eng
open Go.Proofs
theorem dxbo : dxBO.all (rowB (xprog Try.prog [2000073, 75, 105, 4000003, 5000003, 2000135]) 256 56 1) = true := by kernel_rfl
end Go.Proofs.Ytgijgcmcpgepaaa.Eng

/-
  Examples, by the kernel.
-/
namespace Go.Proofs.Ytgijgcmcpgepaaa.Eng
open Go.Proofs
theorem dxbp : dxBP.all (rowB (xprogG Try.prog [2000073, 75, 105] (tabs dxT2)) 256 30 2) = true := by kernel_rfl
end Go.Proofs.Ytgijgcmcpgepaaa.Eng

/-
  Examples, by the kernel.
-/
namespace Go.Proofs.Ytgijgcmcpgepaaa.Eng
open Go.Proofs
theorem dxra : dxRA.all (rowB (xprogG Try.prog [2000073, 75, 105] (tabs dxT2)) 256 31 3) = true := by kernel_rfl
end Go.Proofs.Ytgijgcmcpgepaaa.Eng
