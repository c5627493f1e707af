/-
  VFactsPerm: the compiled code is what it is; a list is repeated.
-/
import Derived.Test.YtbgjmclpahganaaGreatCode2
import Derived.Test.YtbgjmclpahganaaGreatProg
import Derived.KernelRfl
import Derived.Test.YtbgjmclpahganaaGreatEngX
import Derived.Test.YtbgjmclpahganaaGreatEngZ
namespace Go.Proofs.YtbgjmclpahganaaGreat.Eng
open Go.Proofs
theorem vPerm_code : VPermCode (xprog Tryz.prog [90, 1000147]) where
  h5 := by kernel_rfl
  h25 := by kernel_rfl
  h26 := by kernel_rfl
  h58 := by kernel_rfl
theorem rep_run (x y z : Int) : run (xprog Tryz.prog [90, 1000147]) 256 (.call 58) [.list 3 [.agg [.int .i64 x, .int .i64 y, .int .i64 z]] none, .int .i64 200] Store.empty = some (.ret, [.list 3 (List.replicate 200 (.agg [.int .i64 x, .int .i64 y, .int .i64 z])) none], Store.empty) := by kernel_rfl
theorem rep58 (x y z : Int) (σ : Store) : Run (xprog Tryz.prog [90, 1000147]) (.call 58) [.list 3 [.agg [.int .i64 x, .int .i64 y, .int .i64 z]] none, .int .i64 200] σ = some (.ret, [.list 3 (List.replicate 200 (.agg [.int .i64 x, .int .i64 y, .int .i64 z])) none], σ) :=
  pure_any (by simp [stripL, AVal.strip, freeL, AVal.free]) ((Run_iff _ _ _ _ _).mpr ⟨_, rep_run x y z⟩) σ
end Go.Proofs.YtbgjmclpahganaaGreat.Eng
