/-
  The example's plan.
-/
import Derived.Test.YtjbegiaceekgcaaEngX
import Derived.Test.YtjbegiaceekgcaaProg
import Derived.KernelRfl
import Derived.Test.YtjbegiaceekgcaaEng1
import Derived.Test.YtjbegiaceekgcaaEng2
import Derived.Test.YtjbegiaceekgcaaCode1
import Derived.Test.YtjbegiaceekgcaaRows
import Derived.Test.YtjbegiaceekgcaaChecked
import Derived.Test.YtjbegiaceekgcaaEngZ
import Derived.ProofKit
import Derived.Test.YtjbegiaceekgcaaEngLoop
import Derived.JoinedOf
namespace Go.Proofs.Ytjbegiaceekgcaa.Eng
def sqOpen : ByteArray := "open".toUTF8
def sqSpeed : ByteArray := "speed".toUTF8
def sqRest : ByteArray := "rest".toUTF8
def sqStart : ByteArray := "start".toUTF8
def sqTurbine : ByteArray := "turbine".toUTF8
def sqStop : ByteArray := "stop".toUTF8
def sqBrake : ByteArray := "brake".toUTF8
def exPlan : AVal := .agg [.list 1 [.str sqOpen, .str sqSpeed] none, .int .i64 0, .list 14 [.agg [.str sqRest, .bool true, .int .i64 0, .int .i64 0, .int .i64 0, .int .i64 1, .list 1 [.int .i64 1] none, .int .i64 0, .int .i64 0, .int .i64 0, .int .i64 0, .int .i64 0, .int .i64 0, .int .i64 0], .agg [.str sqStart, .bool false, .int .i64 0, .int .i64 3, .int .i64 60, .int .i64 0, .nils, .int .i64 3, .int .i64 0, .int .i64 3, .int .i64 0, .int .i64 30, .int .i64 2, .int .i64 3], .agg [.str sqTurbine, .bool false, .int .i64 2, .int .i64 3, .int .i64 0, .int .i64 3, .list 1 [.int .i64 3] none, .int .i64 0, .int .i64 0, .int .i64 0, .int .i64 0, .int .i64 0, .int .i64 0, .int .i64 0], .agg [.str sqStop, .bool false, .int .i64 0, .int .i64 3, .int .i64 40, .int .i64 0, .nils, .int .i64 0, .int .i64 2, .int .i64 0, .int .i64 3, .int .i64 20, .int .i64 0, .int .i64 4], .agg [.str sqBrake, .bool false, .int .i64 0, .int .i64 4, .int .i64 90, .int .i64 0, .nils, .int .i64 0, .int .i64 1, .int .i64 0, .int .i64 3, .int .i64 50, .int .i64 0, .int .i64 0]] none]
def exHall : AVal := .agg [.int .i64 2, .list 3 [.agg [.int .i64 2, .int .i64 1, .int .i64 0], .agg [.int .i64 3, .int .i64 0, .int .i64 1]] none]
def exRest : AVal := .agg [.str sqRest, .bool true, .int .i64 0, .int .i64 0, .int .i64 0, .int .i64 1, .list 1 [.int .i64 1] none, .int .i64 0, .int .i64 0, .int .i64 0, .int .i64 0, .int .i64 0, .int .i64 0, .int .i64 0]
def exTurb : AVal := .agg [.str sqTurbine, .bool false, .int .i64 2, .int .i64 3, .int .i64 0, .int .i64 3, .list 1 [.int .i64 3] none, .int .i64 0, .int .i64 0, .int .i64 0, .int .i64 0, .int .i64 0, .int .i64 0, .int .i64 0]
def exM : AVal := .agg [.list 1 [.str sqOpen, .str sqSpeed] none, .int .i64 0, .list 14 [.agg [.str sqRest, .bool true, .int .i64 0, .int .i64 0, .int .i64 0, .int .i64 1, .list 1 [.int .i64 1] none, .int .i64 0, .int .i64 0, .int .i64 0, .int .i64 0, .int .i64 0, .int .i64 0, .int .i64 0], .agg [.str sqStart, .bool false, .int .i64 0, .int .i64 3, .int .i64 60, .int .i64 0, .nils, .int .i64 3, .int .i64 0, .int .i64 3, .int .i64 0, .int .i64 30, .int .i64 2, .int .i64 3], .agg [.str sqTurbine, .bool false, .int .i64 2, .int .i64 3, .int .i64 0, .int .i64 3, .list 1 [.int .i64 3] none, .int .i64 0, .int .i64 0, .int .i64 0, .int .i64 0, .int .i64 0, .int .i64 0, .int .i64 0], .agg [.str sqStop, .bool false, .int .i64 0, .int .i64 3, .int .i64 40, .int .i64 0, .nils, .int .i64 0, .int .i64 2, .int .i64 0, .int .i64 3, .int .i64 20, .int .i64 0, .int .i64 4], .agg [.str sqBrake, .bool false, .int .i64 0, .int .i64 4, .int .i64 90, .int .i64 0, .nils, .int .i64 0, .int .i64 1, .int .i64 0, .int .i64 3, .int .i64 50, .int .i64 0, .int .i64 0]] none, .int .i64 (-1), .bool false]
end Go.Proofs.Ytjbegiaceekgcaa.Eng

/-
  Examples: calls.
-/
namespace Go.Proofs.Ytjbegiaceekgcaa.Eng
open Go.Proofs
theorem exam47 : run (xprog Try.prog [2000054, 127, 2000114, 2000097, 4000003, 2000033]) 64 (.call 47) [] Store.empty = some (.ret, [exPlan], Store.empty) := by kernel_rfl
theorem exam49 : run (xprog Try.prog [2000054, 127, 2000114, 2000097, 4000003, 2000033]) 64 (.call 49) [] Store.empty = some (.ret, [exHall], Store.empty) := by kernel_rfl
theorem exam40 : run (xprog Try.prog [2000054, 127, 2000114, 2000097, 4000003, 2000033]) 128 (.call 40) [exHall, .list 1 [.int .i64 2, .int .i64 1] none] Store.empty = some (.ret, [.tup [.agg [.int .i64 0, .int .i64 0], .int .i64 0]], Store.empty) := by kernel_rfl
theorem exam40b : run (xprog Try.prog [2000054, 127, 2000114, 2000097, 4000003, 2000033]) 128 (.call 40) [exHall, .list 1 [.int .i64 0, .int .i64 0] none] Store.empty = some (.ret, [.tup [.agg [.int .i64 0, .int .i64 0], .int .i64 12]], Store.empty) := by kernel_rfl
theorem exam50 : run (xprog Try.prog [2000054, 127, 2000114, 2000097, 4000003, 2000033]) 64 (.call 50) [.list 1 [.int .i64 1] none, .list 1 [.int .i64 1] none] Store.empty = some (.ret, [.bool true], Store.empty) := by kernel_rfl
theorem exam28 : run (xprog Try.prog [2000054, 127, 2000114, 2000097, 4000003, 2000033]) 32 (.call 28) [] Store.empty = some (.ret, [.agg [.int .i64 (-1), .bool false]], Store.empty) := by kernel_rfl
end Go.Proofs.Ytjbegiaceekgcaa.Eng

/-
  Examples: calls.
-/
namespace Go.Proofs.Ytjbegiaceekgcaa.Eng
open Go.Proofs
theorem exam71 : run (xprog Try.prog [2000054, 127, 2000114, 2000097, 4000003, 2000033]) 512 (.call 71) [exPlan, .agg [.int .i64 0, .int .i64 0], .agg [.int .i64 (-1), .bool false]] Store.empty = some (.ret, [.tup [exM, .int .i64 0]], Store.empty) := by kernel_rfl
end Go.Proofs.Ytjbegiaceekgcaa.Eng

/-
  Examples: calls.
-/
namespace Go.Proofs.Ytjbegiaceekgcaa.Eng
open Go.Proofs
theorem exam84 : run (xprog Try.prog [2000054, 127, 2000114, 2000097, 4000003, 2000033]) 512 (.call 84) [exM, .int .i64 2, .agg [.int .i64 0, .int .i64 0]] Store.empty = some (.ret, [.list 2 [.agg [.list 1 [.int .i64 1] none, .int .i64 31], .agg [.list 1 [.int .i64 1, .int .i64 3, .int .i64 1] none, .int .i64 83], .agg [.list 1 [.int .i64 1, .int .i64 3, .int .i64 1, .int .i64 3, .int .i64 1] none, .int .i64 135], .agg [.list 1 [.int .i64 1, .int .i64 3, .int .i64 1, .int .i64 3, .int .i64 1, .int .i64 3, .int .i64 1] none, .int .i64 187], .agg [.list 1 [.int .i64 1, .int .i64 3, .int .i64 1, .int .i64 3, .int .i64 1, .int .i64 3, .int .i64 1, .int .i64 3, .int .i64 1] none, .int .i64 239]] none], Store.empty) := by kernel_rfl
end Go.Proofs.Ytjbegiaceekgcaa.Eng

/-
  Examples: calls.
-/
namespace Go.Proofs.Ytjbegiaceekgcaa.Eng
open Go.Proofs
theorem exam80 : run (xprog Try.prog [2000054, 127, 2000114, 2000097, 4000003, 2000033]) 64 (.call 80) [] Store.empty = some (.ret, [.agg [.int .i64 (-1), .bool false]], Store.empty) := by kernel_rfl
theorem exam81 : run (xprog Try.prog [2000054, 127, 2000114, 2000097, 4000003, 2000033]) 64 (.call 81) [.int .i64 2, .int .i64 5] Store.empty = some (.ret, [.int .i64 0], Store.empty) := by kernel_rfl
theorem exam51 : run (xprog Try.prog [2000054, 127, 2000114, 2000097, 4000003, 2000033]) 128 (.call 51) [.list 1 [.int .i64 0, .int .i64 0] none] Store.empty = some (.ret, [.int .i64 0], Store.empty) := by kernel_rfl
theorem exam83 : run (xprog Try.prog [2000054, 127, 2000114, 2000097, 4000003, 2000033]) 64 (.call 83) [exM, .agg [.int .i64 0, .int .i64 0]] Store.empty = some (.ret, [exRest], Store.empty) := by kernel_rfl
theorem exam82 : run (xprog Try.prog [2000054, 127, 2000114, 2000097, 4000003, 2000033]) 64 (.call 82) [exRest] Store.empty = some (.ret, [.bool true], Store.empty) := by kernel_rfl
theorem exam82b : run (xprog Try.prog [2000054, 127, 2000114, 2000097, 4000003, 2000033]) 64 (.call 82) [exTurb] Store.empty = some (.ret, [.bool true], Store.empty) := by kernel_rfl
theorem exam85 : run (xprog Try.prog [2000054, 127, 2000114, 2000097, 4000003, 2000033]) 256 (.call 85) [.list 2 [.agg [.list 1 [.int .i64 1] none, .int .i64 31], .agg [.list 1 [.int .i64 1, .int .i64 3, .int .i64 1] none, .int .i64 83], .agg [.list 1 [.int .i64 1, .int .i64 3, .int .i64 1, .int .i64 3, .int .i64 1] none, .int .i64 135], .agg [.list 1 [.int .i64 1, .int .i64 3, .int .i64 1, .int .i64 3, .int .i64 1, .int .i64 3, .int .i64 1] none, .int .i64 187], .agg [.list 1 [.int .i64 1, .int .i64 3, .int .i64 1, .int .i64 3, .int .i64 1, .int .i64 3, .int .i64 1, .int .i64 3, .int .i64 1] none, .int .i64 239]] none, .fn 86 [] []] Store.empty = some (.ret, [.agg [.list 1 [.int .i64 1] none, .int .i64 31]], Store.empty) := by kernel_rfl
end Go.Proofs.Ytjbegiaceekgcaa.Eng

/-
  Examples: calls.
-/
namespace Go.Proofs.Ytjbegiaceekgcaa.Eng
open Go.Proofs
theorem exam21 : run (xprog Try.prog [2000054, 127, 2000114, 2000097, 4000003, 2000033]) 512 (.call 21) [exPlan, .agg [.int .i64 1, .int .i64 0], .agg [.int .i64 (-1), .bool false, .int .i64 (-1)]] Store.empty = some (.ret, [.tup [.agg [.int .i64 2, .int .i64 3], .int .i64 30, .int .i64 0]], Store.empty) := by kernel_rfl
end Go.Proofs.Ytjbegiaceekgcaa.Eng

/-
  Examples: calls.
-/
namespace Go.Proofs.Ytjbegiaceekgcaa.Eng
open Go.Proofs
theorem exam48 : run (xprog Try.prog [2000054, 127, 2000114, 2000097, 4000003, 2000033]) 512 (.call 48) [exPlan, .agg [.int .i64 2, .int .i64 3], .agg [.int .i64 1, .bool true]] Store.empty = some (.ret, [.tup [.list 2 [.agg [.int .i64 3, .int .i64 3], .agg [.int .i64 4, .int .i64 0], .agg [.int .i64 0, .int .i64 0]] none, .int .i64 91, .int .i64 0]], Store.empty) := by kernel_rfl
end Go.Proofs.Ytjbegiaceekgcaa.Eng

/-
  The examples hold.
-/
namespace Go.Proofs.Ytjbegiaceekgcaa.Eng
open Go.Proofs
set_option linter.unusedSimpArgs false
set_option linter.unusedVariables false
theorem xawX : SqAwXCode (xprog Try.prog [2000054, 127, 2000114, 2000097, 4000003, 2000033]) where
  h8 := by kernel_rfl
  h31 := by kernel_rfl
theorem ex_any {f : FuncId} {args : List AVal} {v : AVal} {n : Nat} (hf : freeL (stripL args) = true) (h : run (xprog Try.prog [2000054, 127, 2000114, 2000097, 4000003, 2000033]) n (.call f) args Store.empty = some (.ret, [v], Store.empty)) (σ : Store) : Run (xprog Try.prog [2000054, 127, 2000114, 2000097, 4000003, 2000033]) (.call f) args σ = some (.ret, [v], σ) :=
  pure_any hf ((Run_iff _ _ _ _ _).mpr ⟨_, h⟩) σ
theorem call31 {X : FuncId → Option XFunc} (hX : SqAwXCode X)
    (ea : ∀ σ, Run X (.call 71) [exPlan, .agg [.int .i64 0, .int .i64 0], .agg [.int .i64 (-1), .bool false]] σ = some (.ret, [.tup [exM, .int .i64 0]], σ))
    (eb : ∀ σ, Run X (.call 84) [exM, .int .i64 2, .agg [.int .i64 0, .int .i64 0]] σ = some (.ret, [.list 2 [.agg [.list 1 [.int .i64 1] none, .int .i64 31], .agg [.list 1 [.int .i64 1, .int .i64 3, .int .i64 1] none, .int .i64 83], .agg [.list 1 [.int .i64 1, .int .i64 3, .int .i64 1, .int .i64 3, .int .i64 1] none, .int .i64 135], .agg [.list 1 [.int .i64 1, .int .i64 3, .int .i64 1, .int .i64 3, .int .i64 1, .int .i64 3, .int .i64 1] none, .int .i64 187], .agg [.list 1 [.int .i64 1, .int .i64 3, .int .i64 1, .int .i64 3, .int .i64 1, .int .i64 3, .int .i64 1, .int .i64 3, .int .i64 1] none, .int .i64 239]] none], σ))
    (ec : ∀ σ, Run X (.call 80) [] σ = some (.ret, [.agg [.int .i64 (-1), .bool false]], σ))
    (ed : ∀ σ, Run X (.call 81) [.int .i64 2, .int .i64 5] σ = some (.ret, [.int .i64 0], σ))
    (ee : ∀ σ, Run X (.call 51) [.list 1 [.int .i64 0, .int .i64 0] none] σ = some (.ret, [.int .i64 0], σ))
    (ef : ∀ σ, Run X (.call 83) [exM, .agg [.int .i64 0, .int .i64 0]] σ = some (.ret, [exRest], σ))
    (eg : ∀ σ, Run X (.call 82) [exRest] σ = some (.ret, [.bool true], σ))
    (eh : ∀ σ, Run X (.call 82) [exTurb] σ = some (.ret, [.bool true], σ))
    (ei : ∀ σ, Run X (.call 85) [.list 2 [.agg [.list 1 [.int .i64 1] none, .int .i64 31], .agg [.list 1 [.int .i64 1, .int .i64 3, .int .i64 1] none, .int .i64 83], .agg [.list 1 [.int .i64 1, .int .i64 3, .int .i64 1, .int .i64 3, .int .i64 1] none, .int .i64 135], .agg [.list 1 [.int .i64 1, .int .i64 3, .int .i64 1, .int .i64 3, .int .i64 1, .int .i64 3, .int .i64 1] none, .int .i64 187], .agg [.list 1 [.int .i64 1, .int .i64 3, .int .i64 1, .int .i64 3, .int .i64 1, .int .i64 3, .int .i64 1, .int .i64 3, .int .i64 1] none, .int .i64 239]] none, .fn 86 [] []] σ = some (.ret, [.agg [.list 1 [.int .i64 1] none, .int .i64 31]], σ)) (σ : Store) :
    Run X (.call 31) [exPlan, .agg [.int .i64 0, .int .i64 0], .int .i64 2] σ = some (.ret, [.tup [.list 1 [.int .i64 1] none, .int .i64 31, .int .i64 0]], σ) := by
  have st : exPlan.strip = exPlan := by simp [exPlan, AVal.strip, stripL]
  have fr : exPlan.free = true := by simp [exPlan, AVal.free, freeL]
  have st2 : exM.strip = exM := by simp [exM, AVal.strip, stripL]
  have fr2 : exM.free = true := by simp [exM, AVal.free, freeL]
  have st3 : exRest.strip = exRest := by simp [exRest, AVal.strip, stripL]
  have fr3 : exRest.free = true := by simp [exRest, AVal.free, freeL]
  have st4 : exTurb.strip = exTurb := by simp [exTurb, AVal.strip, stripL]
  have fr4 : exTurb.free = true := by simp [exTurb, AVal.free, freeL]
  have ee' : ∀ t σ, Run X (.call 51) [.list 1 [.int .i64 0, .int .i64 0] t] σ = some (.ret, [.int .i64 0], σ) := fun t σ => by rw [call_stripped rfl]; exact ee σ
  refine call3 (a := exPlan) (b := .agg [.int .i64 0, .int .i64 0]) (c := .int .i64 2) (v := .tup [.list 1 [.int .i64 1] none, .int .i64 31, .int .i64 0]) hX.h31 (by rw [st]; exact fr) rfl rfl (by decide) (fun tm hl h0 h1 h2 => ?_) rfl σ
  replace hl : tm.length = 63 := hl
  simp only [AVal.strip, stripL, st] at h0 h1 h2
  have g1 : exPlan = .agg [.list 1 [.str sqOpen, .str sqSpeed] none, .int .i64 0, .list 14 [.agg [.str sqRest, .bool true, .int .i64 0, .int .i64 0, .int .i64 0, .int .i64 1, .list 1 [.int .i64 1] none, .int .i64 0, .int .i64 0, .int .i64 0, .int .i64 0, .int .i64 0, .int .i64 0, .int .i64 0], .agg [.str sqStart, .bool false, .int .i64 0, .int .i64 3, .int .i64 60, .int .i64 0, .nils, .int .i64 3, .int .i64 0, .int .i64 3, .int .i64 0, .int .i64 30, .int .i64 2, .int .i64 3], .agg [.str sqTurbine, .bool false, .int .i64 2, .int .i64 3, .int .i64 0, .int .i64 3, .list 1 [.int .i64 3] none, .int .i64 0, .int .i64 0, .int .i64 0, .int .i64 0, .int .i64 0, .int .i64 0, .int .i64 0], .agg [.str sqStop, .bool false, .int .i64 0, .int .i64 3, .int .i64 40, .int .i64 0, .nils, .int .i64 0, .int .i64 2, .int .i64 0, .int .i64 3, .int .i64 20, .int .i64 0, .int .i64 4], .agg [.str sqBrake, .bool false, .int .i64 0, .int .i64 4, .int .i64 90, .int .i64 0, .nils, .int .i64 0, .int .i64 1, .int .i64 0, .int .i64 3, .int .i64 50, .int .i64 0, .int .i64 0]] none] := rfl
  have g2 : exM = .agg [.list 1 [.str sqOpen, .str sqSpeed] none, .int .i64 0, .list 14 [.agg [.str sqRest, .bool true, .int .i64 0, .int .i64 0, .int .i64 0, .int .i64 1, .list 1 [.int .i64 1] none, .int .i64 0, .int .i64 0, .int .i64 0, .int .i64 0, .int .i64 0, .int .i64 0, .int .i64 0], .agg [.str sqStart, .bool false, .int .i64 0, .int .i64 3, .int .i64 60, .int .i64 0, .nils, .int .i64 3, .int .i64 0, .int .i64 3, .int .i64 0, .int .i64 30, .int .i64 2, .int .i64 3], .agg [.str sqTurbine, .bool false, .int .i64 2, .int .i64 3, .int .i64 0, .int .i64 3, .list 1 [.int .i64 3] none, .int .i64 0, .int .i64 0, .int .i64 0, .int .i64 0, .int .i64 0, .int .i64 0, .int .i64 0], .agg [.str sqStop, .bool false, .int .i64 0, .int .i64 3, .int .i64 40, .int .i64 0, .nils, .int .i64 0, .int .i64 2, .int .i64 0, .int .i64 3, .int .i64 20, .int .i64 0, .int .i64 4], .agg [.str sqBrake, .bool false, .int .i64 0, .int .i64 4, .int .i64 90, .int .i64 0, .nils, .int .i64 0, .int .i64 1, .int .i64 0, .int .i64 3, .int .i64 50, .int .i64 0, .int .i64 0]] none, .int .i64 (-1), .bool false] := rfl
  have g3 : exTurb = .agg [.str sqTurbine, .bool false, .int .i64 2, .int .i64 3, .int .i64 0, .int .i64 3, .list 1 [.int .i64 3] none, .int .i64 0, .int .i64 0, .int .i64 0, .int .i64 0, .int .i64 0, .int .i64 0, .int .i64 0] := rfl
  rw [g1] at h0 ea
  rw [g2] at ea eb ef
  rw [g3] at eh
  rw [g1] at st fr
  rw [g2] at st2 fr2
  rw [g3] at st4 fr4
  unfold Gives
  simp [xf31, hl, h0, h1, h2, ea, eb, ec, ed, ee', ef, eg, eh, ei, st, fr, st2, fr2, st3, fr3, st4, fr4, xlen, xload, xresult, xrets, xret_t, ix1, ix2, Store.empty, Store.new, Store.put, Store.get, look, putL, setR, Store.only, Store.merge, touch, wrote, upTo, isIn, okRec, hits, capsOf, xcaps, stripL, AVal.strip, freeL, AVal.free, fillR, chunks, mkV, List.filter]
theorem awake8 {X : FuncId → Option XFunc} (hX : SqAwXCode X) (ea : ∀ σ, Run X (.call 47) [] σ = some (.ret, [exPlan], σ)) (eb : ∀ σ, Run X (.call 28) [] σ = some (.ret, [.agg [.int .i64 (-1), .bool false]], σ))
    (ec : ∀ σ, Run X (.call 21) [exPlan, .agg [.int .i64 1, .int .i64 0], .agg [.int .i64 (-1), .bool false, .int .i64 (-1)]] σ = some (.ret, [.tup [.agg [.int .i64 2, .int .i64 3], .int .i64 30, .int .i64 0]], σ))
    (ed : ∀ σ, Run X (.call 48) [exPlan, .agg [.int .i64 2, .int .i64 3], .agg [.int .i64 1, .bool true]] σ = some (.ret, [.tup [.list 2 [.agg [.int .i64 3, .int .i64 3], .agg [.int .i64 4, .int .i64 0], .agg [.int .i64 0, .int .i64 0]] none, .int .i64 91, .int .i64 0]], σ))
    (ee : ∀ σ, Run X (.call 31) [exPlan, .agg [.int .i64 0, .int .i64 0], .int .i64 2] σ = some (.ret, [.tup [.list 1 [.int .i64 1] none, .int .i64 31, .int .i64 0]], σ))
    (ef : ∀ σ, Run X (.call 49) [] σ = some (.ret, [exHall], σ))
    (eg : ∀ σ, Run X (.call 40) [exHall, .list 1 [.int .i64 2, .int .i64 1] none] σ = some (.ret, [.tup [.agg [.int .i64 0, .int .i64 0], .int .i64 0]], σ))
    (eh : ∀ σ, Run X (.call 40) [exHall, .list 1 [.int .i64 0, .int .i64 0] none] σ = some (.ret, [.tup [.agg [.int .i64 0, .int .i64 0], .int .i64 12]], σ))
    (ei : ∀ σ, Run X (.call 50) [.list 1 [.int .i64 1] none, .list 1 [.int .i64 1] none] σ = some (.ret, [.bool true], σ)) (σ : Store) : Run X (.call 8) [] σ = some (.ret, [.bool true], σ) := by
  have st : exPlan.strip = exPlan := by simp [exPlan, AVal.strip, stripL]
  have fr : exPlan.free = true := by simp [exPlan, AVal.free, freeL]
  have st2 : exHall.strip = exHall := by simp [exHall, AVal.strip, stripL]
  have fr2 : exHall.free = true := by simp [exHall, AVal.free, freeL]
  have eg' : ∀ t σ, Run X (.call 40) [exHall, .list 1 [.int .i64 2, .int .i64 1] t] σ = some (.ret, [.tup [.agg [.int .i64 0, .int .i64 0], .int .i64 0]], σ) := fun t σ => by rw [call_stripped (by simp [fr2, stripL, AVal.strip, st2, freeL, AVal.free])]; simpa [stripL, st2, AVal.strip] using eg σ
  have eh' : ∀ t σ, Run X (.call 40) [exHall, .list 1 [.int .i64 0, .int .i64 0] t] σ = some (.ret, [.tup [.agg [.int .i64 0, .int .i64 0], .int .i64 12]], σ) := fun t σ => by rw [call_stripped (by simp [fr2, stripL, AVal.strip, st2, freeL, AVal.free])]; simpa [stripL, st2, AVal.strip] using eh σ
  have ei' : ∀ t σ, Run X (.call 50) [.list 1 [.int .i64 1] none, .list 1 [.int .i64 1] t] σ = some (.ret, [.bool true], σ) := fun t σ => by rw [call_stripped rfl]; exact ei σ
  refine call_pure (v := .bool true) hX.h8 rfl ?_ rfl σ
  have hl : (stripL [] ++ List.replicate (xf8.ntmps - (stripL []).length) aundef).length = 100 := by simp [stripL, xf8]
  generalize stripL [] ++ List.replicate (xf8.ntmps - (stripL []).length) aundef = tm at *
  unfold Gives
  simp [xf8, hl, ea, eb, ec, ed, ee, ef, eg', eh', ei', st, fr, st2, fr2, Store.empty, Store.new, Store.put, Store.get, look, putL, setR, Store.only, Store.merge, touch, wrote, upTo, isIn, okRec, hits, capsOf, xcaps, stripL, AVal.strip, freeL, AVal.free, fillR, chunks, mkV, List.filter]
theorem awake_true (σ : Store) : Run (xprog Try.prog [2000054, 127, 2000114, 2000097, 4000003, 2000033]) (.call 8) [] σ = some (.ret, [.bool true], σ) :=
  awake8 xawX (ex_any rfl exam47) (ex_any rfl exam28) (ex_any (by simp [exPlan, AVal.strip, stripL, AVal.free, freeL]) exam21) (ex_any (by simp [exPlan, AVal.strip, stripL, AVal.free, freeL]) exam48) (call31 xawX (ex_any (by simp [exPlan, AVal.strip, stripL, AVal.free, freeL]) exam71) (ex_any (by simp [exM, AVal.strip, stripL, AVal.free, freeL]) exam84) (ex_any rfl exam80) (ex_any rfl exam81) (ex_any rfl exam51) (ex_any (by simp [exM, AVal.strip, stripL, AVal.free, freeL]) exam83) (ex_any (by simp [exRest, AVal.strip, stripL, AVal.free, freeL]) exam82) (ex_any (by simp [exTurb, AVal.strip, stripL, AVal.free, freeL]) exam82b) (ex_any rfl exam85)) (ex_any rfl exam49) (ex_any (by simp [exHall, AVal.strip, stripL, AVal.free, freeL]) exam40) (ex_any (by simp [exHall, AVal.strip, stripL, AVal.free, freeL]) exam40b) (ex_any rfl exam50) σ
end Go.Proofs.Ytjbegiaceekgcaa.Eng

/-
  What the rows share.
-/
namespace Go.Proofs.Ytjbegiaceekgcaa
open Go.ChangeShapes Go.WideShapes Go.ChangeAt Go.RowKit Go.Proofs.Ytjbegiaceekgcaa.Eng
set_option linter.unusedSimpArgs false
set_option linter.unusedVariables false

theorem own : ownKnob Try.prog.godebug = none := by kernel_rfl
theorem laid : laidOutB Try.prog = true := by kernel_rfl
theorem rowed : mapsRowed Try.prog = true := by kernel_rfl
theorem sliced : slicesOk Try.prog = true := by kernel_rfl
theorem drawn : Try.prog.follows .mixedOrders = true := by kernel_rfl

theorem awake_run (σ : Store) : Run (xprog Try.prog [2000054, 127, 2000114, 2000097, 4000003, 2000033]) (.call 8) [] σ = some (.ret, [.bool true], σ) := awake_true σ
end Go.Proofs.Ytjbegiaceekgcaa

/-
  Votes: the signals that are in at least two of three sets, bit by bit.
-/
namespace Go.Proofs.Ytjbegiaceekgcaa.Eng
def voteN (a b c : Nat) : Nat := a &&& b ||| a &&& c ||| b &&& c
def bitN (a k : Nat) : Nat := (a >>> k) &&& 1
def cnt3 (a b c k : Nat) : Nat := bitN a k + bitN b k + bitN c k
def stepV (a b c k out : Nat) : Nat := if 2 ≤ cnt3 a b c k then out + 2 ^ k else out
def refV (a b c : Nat) : Nat := stepV a b c 4 (stepV a b c 3 (stepV a b c 2 (stepV a b c 1 (stepV a b c 0 0))))
theorem vote_dec : ∀ a, a < 32 → ∀ b, b < 32 → ∀ c, c < 32 → voteN a b c = refV a b c := by decide +kernel
theorem vote_ab (t c : Nat) : voteN t t c = t := by
  unfold voteN
  apply Nat.eq_of_testBit_eq
  intro i
  simp only [Nat.testBit_or, Nat.testBit_and]
  cases t.testBit i <;> cases c.testBit i <;> rfl
theorem vote_ac (t b : Nat) : voteN t b t = t := by
  unfold voteN
  apply Nat.eq_of_testBit_eq
  intro i
  simp only [Nat.testBit_or, Nat.testBit_and]
  cases t.testBit i <;> cases b.testBit i <;> rfl
theorem vote_bc (t a : Nat) : voteN a t t = t := by
  unfold voteN
  apply Nat.eq_of_testBit_eq
  intro i
  simp only [Nat.testBit_or, Nat.testBit_and]
  cases t.testBit i <;> cases a.testBit i <;> rfl
/-- Whole numbers that are not below 0, and fit. -/
theorem wrap_nat {n : Nat} (h : n < 2 ^ 63) : IntKind.wrap .i64 (n : Int) = n := by
  have : (2:Nat)^63 = 9223372036854775808 := by decide
  simp [IntKind.wrap, IntKind.bits, IntKind.signed]
  omega
theorem ofInt_nat (n : Nat) : BitVec.ofInt 64 (n : Int) = BitVec.ofNat 64 n := by
  apply BitVec.eq_of_toNat_eq
  simp [BitVec.toNat_ofNat]
theorem and_nat {a b : Nat} (ha : a < 2 ^ 63) (hb : b < 2 ^ 63) : xbits .and .i64 (a : Int) (b : Int) = some ((a &&& b : Nat) : Int) := by
  have h : (a &&& b) < 2 ^ 63 := Nat.and_lt_two_pow _ hb
  have e : (BitVec.ofInt 64 (a : Int) &&& BitVec.ofInt 64 (b : Int)).toNat = a &&& b := by
    rw [ofInt_nat, ofInt_nat, BitVec.toNat_and, BitVec.toNat_ofNat, BitVec.toNat_ofNat, Nat.mod_eq_of_lt (by omega), Nat.mod_eq_of_lt (by omega)]
  show some _ = _
  rw [show IntKind.bits .i64 = 64 from rfl, e, wrap_nat h]
theorem or_nat {a b : Nat} (ha : a < 2 ^ 63) (hb : b < 2 ^ 63) : xbits .or .i64 (a : Int) (b : Int) = some ((a ||| b : Nat) : Int) := by
  have h : (a ||| b) < 2 ^ 63 := Nat.or_lt_two_pow ha hb
  have e : (BitVec.ofInt 64 (a : Int) ||| BitVec.ofInt 64 (b : Int)).toNat = a ||| b := by
    rw [ofInt_nat, ofInt_nat, BitVec.toNat_or, BitVec.toNat_ofNat, BitVec.toNat_ofNat, Nat.mod_eq_of_lt (by omega), Nat.mod_eq_of_lt (by omega)]
  show some _ = _
  rw [show IntKind.bits .i64 = 64 from rfl, e, wrap_nat h]
theorem shr_nat (a k : Nat) : (a : Int).fdiv (2 ^ k) = ((a >>> k : Nat) : Int) := by
  rw [Nat.shiftRight_eq_div_pow, Int.fdiv_eq_ediv_of_nonneg _ (Int.le_of_lt (Int.pow_pos (by omega)))]
  simp
theorem and1_nat {a : Nat} (ha : a < 2 ^ 63) : xbits .and .i64 (a : Int) 1 = some ((a &&& 1 : Nat) : Int) := and_nat ha (b := 1) (by decide)
def win (a b c : Int) : Bool := decide (b ≤ a) && decide (a ≤ c)
theorem win_iff {a b c : Int} : win a b c = true ↔ b ≤ a ∧ a ≤ c := by simp [win]
def firstNZ : List Int → Int
  | [] => 0
  | e :: l => if e = 0 then firstNZ l else e
/-- The error of a set of any plan. -/
def chk (a : Int) : Int := if win a 0 31 then 0 else 2
theorem wrp {n : Int} (h1 : -1000000000000000000 ≤ n) (h2 : n ≤ 1000000000000000000) : IntKind.i64.wrap n = n := by rw [wrap_i64] <;> omega
theorem bit_le (a k : Nat) : bitN a k ≤ 1 := Nat.and_le_right
theorem chk_ok {a : Int} (h : chk a = 0) : ∃ n : Nat, a = n ∧ n < 32 := by
  unfold chk at h
  by_cases c : win a 0 31 = true
  · rw [win_iff] at c
    exact ⟨a.toNat, by omega, by omega⟩
  · simp [c] at h
theorem chk_of {n : Nat} (h : n < 32) : chk (n : Int) = 0 := by
  have : win (n : Int) 0 31 = true := by rw [win_iff]; omega
  simp [chk, this]
def e3 (a b c : Int) : Int := firstNZ [chk a, chk b, chk c]
theorem e3_ok {a b c : Int} (h : e3 a b c = 0) : chk a = 0 ∧ chk b = 0 ∧ chk c = 0 := by
  unfold e3 firstNZ at h
  by_cases h1 : chk a = 0
  · simp only [h1, if_true, firstNZ] at h
    by_cases h2 : chk b = 0
    · simp only [h2, if_true] at h
      by_cases h3 : chk c = 0
      · exact ⟨h1, h2, h3⟩
      · simp [h3] at h
    · simp [h2] at h
  · simp [h1] at h
theorem e3_of {a b c : Int} (h1 : chk a = 0) (h2 : chk b = 0) (h3 : chk c = 0) : e3 a b c = 0 := by simp [e3, firstNZ, h1, h2, h3]
/-- How many of three sets differ from one. -/
def wrongs (a b c t : Int) : Int := (if a = t then 0 else 1) + (if b = t then 0 else 1) + (if c = t then 0 else 1)
theorem vote_right {a b c : Nat} {t : Int} (h : wrongs a b c t ≤ 1) : ((voteN a b c : Nat) : Int) = t := by
  unfold wrongs at h
  by_cases h1 : (a : Int) = t
  · by_cases h2 : (b : Int) = t
    · have : a = b := by omega
      subst this; rw [vote_ab]; exact h1
    · by_cases h3 : (c : Int) = t
      · have : a = c := by omega
        subst this; rw [vote_ac]; exact h1
      · simp [h1, h2, h3] at h
  · by_cases h2 : (b : Int) = t
    · by_cases h3 : (c : Int) = t
      · have : b = c := by omega
        subst this; rw [vote_bc]; exact h2
      · simp [h1, h2, h3] at h
    · by_cases h3 : (c : Int) = t <;> simp [h1, h2, h3] at h
end Go.Proofs.Ytjbegiaceekgcaa.Eng

/-
  Values of the rows' types.
-/
namespace Go.Proofs.Ytjbegiaceekgcaa
open Go.ChangeShapes Go.WideShapes Go.ChangeAt Go.RowKit Go.Proofs.Ytjbegiaceekgcaa.Eng
set_option linter.unusedSimpArgs false
set_option linter.unusedVariables false
theorem HasV_array {P : Program} {t e : TypeId} {n : Nat} {x : AVal} (ht : P.underlying t = some (.array n e)) (h : HasV P t x) : ∃ vs : List AVal, x = .agg (vs.flatMap AVal.cells) ∧ vs.length = n ∧ ∀ (i : Nat) (y : AVal), vs[i]? = some y → HasV P e y := by
  cases h with
  | int t k' n h1 h2 => rw [ht] at h1; cases h1
  | bool t b h1 => rw [ht] at h1; cases h1
  | str t s h1 h2 => rw [ht] at h1; cases h1
  | nils t e h1 => rw [ht] at h1; cases h1
  | list t e xs h1 => rw [ht] at h1; cases h1
  | struct t fs vs h1 => rw [ht] at h1; cases h1
  | array t e' n' vs h1 h2 h3 =>
    rw [ht] at h1
    obtain ⟨rfl, rfl⟩ : n = n' ∧ e = e' := by simpa using h1
    exact ⟨vs, rfl, h2, h3⟩
theorem three_val {v : AVal} (h : HasV Try.prog 76 v) : ∃ a b c : Int, v = .agg [.int .i64 a, .int .i64 b, .int .i64 c] := by
  obtain ⟨vs, rfl, hl, hv⟩ := HasV_array Try.underlying76 h
  match vs, hl with
  | [a, b, c], _ =>
    obtain ⟨x, rfl, _⟩ := (hv 0 _ rfl).int_inv Try.underlying3
    obtain ⟨y, rfl, _⟩ := (hv 1 _ rfl).int_inv Try.underlying3
    obtain ⟨z, rfl, _⟩ := (hv 2 _ rfl).int_inv Try.underlying3
    exact ⟨x, y, z, rfl⟩
end Go.Proofs.Ytjbegiaceekgcaa

/-
  SEQUENCE: sets, votes.
-/
namespace Go.Proofs.Ytjbegiaceekgcaa.Eng
set_option linter.unusedSimpArgs false
set_option linter.unusedVariables false
section
variable {X : FuncId → Option XFunc} (hX : SqACode X)
include hX
theorem u45 (a b c : Int) (σ : Store) : Run X (.call 45) [.int .i64 a, .int .i64 b, .int .i64 c] σ = some (.ret, [.bool (win a b c)], σ) := by
  refine call3 (X := X) (a := .int .i64 a) (b := .int .i64 b) (c := .int .i64 c) (v := .bool (win a b c)) hX.h45 rfl rfl rfl (by decide) (fun tm hl h0 h1 h2 => ?_) rfl σ
  simp only [AVal.strip, stripL] at h0 h1 h2
  replace hl : tm.length = 15 := hl
  unfold Gives
  by_cases e1 : b ≤ a <;> simp [xf45, hl, h0, h1, h2, e1, win]
theorem u112 (a b c : Int) (σ : Store) : Run X (.call 112) [.int .i64 a, .int .i64 b, .int .i64 c] σ = some (.ret, [.bool (win a b c)], σ) := by
  refine call3 (X := X) (a := .int .i64 a) (b := .int .i64 b) (c := .int .i64 c) (v := .bool (win a b c)) hX.h112 rfl rfl rfl (by decide) (fun tm hl h0 h1 h2 => ?_) rfl σ
  simp only [AVal.strip, stripL] at h0 h1 h2
  replace hl : tm.length = 15 := hl
  unfold Gives
  by_cases e1 : b ≤ a <;> simp [xf112, hl, h0, h1, h2, e1, win]
theorem u56 (c : Bool) (e : Int) (σ : Store) : Run X (.call 56) [.bool c, .int .i64 e] σ = some (.ret, [.int .i64 (if c then 0 else e)], σ) := by
  refine call2 (X := X) (a := .bool c) (b := .int .i64 e) (v := .int .i64 (if c then 0 else e)) hX.h56 rfl rfl (by decide) (fun tm hl h0 h1 => ?_) rfl σ
  simp only [AVal.strip, stripL] at h0 h1
  replace hl : tm.length = 7 := hl
  unfold Gives
  cases c <;> simp [xf56, hl, h0, h1]
theorem u90 (a b c : Int) (σ : Store) : Run X (.call 90) [.int .i64 a, .int .i64 b, .int .i64 c] σ = some (.ret, [.int .i64 (if win a b c then 0 else 2)], σ) := by
  refine call3 (X := X) (a := .int .i64 a) (b := .int .i64 b) (c := .int .i64 c) (v := .int .i64 (if win a b c then 0 else 2)) hX.h90 rfl rfl rfl (by decide) (fun tm hl h0 h1 h2 => ?_) rfl σ
  simp only [AVal.strip, stripL] at h0 h1 h2
  replace hl : tm.length = 12 := hl
  unfold Gives
  simp [xf90, hl, h0, h1, h2, u112 hX, u56 hX]
theorem u55 (a : Int) (σ : Store) : Run X (.call 55) [.int .i64 a, .int .i64 5] σ = some (.ret, [.int .i64 (chk a)], σ) := by
  refine call2 (X := X) (a := .int .i64 a) (b := .int .i64 5) (v := .int .i64 (chk a)) hX.h55 rfl rfl (by decide) (fun tm hl h0 h1 => ?_) rfl σ
  simp only [AVal.strip, stripL] at h0 h1
  replace hl : tm.length = 10 := hl
  unfold Gives
  have w1 : IntKind.i64.wrap (1 * 2 ^ (min 5 64)) = 32 := by decide
  have w2 : IntKind.i64.wrap (32 - 1) = 31 := by decide
  have w3 : IntKind.i64.wrap 32 = 32 := by decide
  have w4 : IntKind.i64.wrap 31 = 31 := by decide
  have w5 : IntKind.i64.wrap (2 ^ (min 5 IntKind.i64.bits)) = 32 := by decide
  simp [xf55, hl, h0, h1, u90 hX, chk, w1, w2, w3, w4, w5]
theorem u89 (a : Int) (σ : Store) : Run X (.call 89) [.int .i64 a] σ = some (.ret, [.int .i64 (chk a)], σ) := by
  refine call1 (X := X) (a := .int .i64 a) (v := .int .i64 (chk a)) hX.h89 rfl (by decide) (fun tm hl h0 => ?_) rfl σ
  simp only [AVal.strip, stripL] at h0
  replace hl : tm.length = 5 := hl
  unfold Gives
  simp [xf89, hl, h0, u55 hX]
def st3 (a b c : Int) : Store := ⟨[(0, .cells [.int .i64 a, .int .i64 b, .int .i64 c])], 1⟩
set_option maxHeartbeats 4000000 in
theorem u119v (a b c : Int) : ∃ i, Run X (.call 119) [.mlist 1 0 0 3, .fn 89 [] []] (st3 a b c) = some (.ret, [.tup [.int .i64 i, .int .i64 (e3 a b c)]], st3 a b c) := by
  have hnp : freeL (stripL [.mlist 1 0 0 3, .fn 89 [] []]) = false := rfl
  have hl : (frame [.mlist 1 0 0 3, .fn 89 [] []] xf119.ntmps).length = 24 := rfl
  have h0 := frame_0 (.mlist 1 0 0 3) [.fn 89 [] []] xf119.ntmps
  have h1 := frame_1 (.mlist 1 0 0 3) (.fn 89 [] []) [] xf119.ntmps
  have w1 : IntKind.i64.wrap (0 + 1) = 1 := by decide
  have w2 : IntKind.i64.wrap (1 + 1) = 2 := by decide
  have w3 : IntKind.i64.wrap (2 + 1) = 3 := by decide
  have w4 : IntKind.i64.wrap 1 = 1 := by decide
  have w5 : IntKind.i64.wrap 2 = 2 := by decide
  have w6 : IntKind.i64.wrap 3 = 3 := by decide
  rw [call_np hX.h119 hnp]
  generalize frame [.mlist 1 0 0 3, .fn 89 [] []] xf119.ntmps = tm at *
  have u := u89 hX
  unfold e3
  by_cases c1 : chk a = 0
  · by_cases c2 : chk b = 0
    · by_cases c3 : chk c = 0
      · refine ⟨0, ?_⟩
        simp [xf119, xf119l0, Run_loop, hl, h0, h1, u, c1, c2, c3, firstNZ, st3, xlen, xload, AVal.cells, gc_all, xresult, xrets, xret_t, ix1, ix2, ix3, w1, w2, w3, w4, w5, w6, Store.empty, Store.new, Store.put, Store.get, look, putL, setR, Store.only, Store.merge, touch, wrote, upTo, isIn, okRec, hits, capsOf, xcaps, stripL, AVal.strip, freeL, AVal.free, fillR, chunks, mkV, List.filter]
      · refine ⟨2, ?_⟩
        simp [xf119, xf119l0, Run_loop, hl, h0, h1, u, c1, c2, c3, firstNZ, st3, xlen, xload, AVal.cells, gc_all, xresult, xrets, xret_t, ix1, ix2, ix3, w1, w2, w3, w4, w5, w6, Store.empty, Store.new, Store.put, Store.get, look, putL, setR, Store.only, Store.merge, touch, wrote, upTo, isIn, okRec, hits, capsOf, xcaps, stripL, AVal.strip, freeL, AVal.free, fillR, chunks, mkV, List.filter]
    · refine ⟨1, ?_⟩
      simp [xf119, xf119l0, Run_loop, hl, h0, h1, u, c1, c2, firstNZ, st3, xlen, xload, AVal.cells, gc_all, xresult, xrets, xret_t, ix1, ix2, ix3, w1, w2, w3, w4, w5, w6, Store.empty, Store.new, Store.put, Store.get, look, putL, setR, Store.only, Store.merge, touch, wrote, upTo, isIn, okRec, hits, capsOf, xcaps, stripL, AVal.strip, freeL, AVal.free, fillR, chunks, mkV, List.filter]
  · refine ⟨0, ?_⟩
    simp [xf119, xf119l0, Run_loop, hl, h0, h1, u, c1, firstNZ, st3, xlen, xload, AVal.cells, gc_all, xresult, xrets, xret_t, ix1, ix2, ix3, w1, w2, w3, w4, w5, w6, Store.empty, Store.new, Store.put, Store.get, look, putL, setR, Store.only, Store.merge, touch, wrote, upTo, isIn, okRec, hits, capsOf, xcaps, stripL, AVal.strip, freeL, AVal.free, fillR, chunks, mkV, List.filter]
theorem u88v (a b c : Int) : Run X (.call 88) [.mlist 1 0 0 3, .fn 89 [] []] (st3 a b c) = some (.ret, [.int .i64 (e3 a b c)], st3 a b c) := by
  have hnp : freeL (stripL [.mlist 1 0 0 3, .fn 89 [] []]) = false := rfl
  have hl : (frame [.mlist 1 0 0 3, .fn 89 [] []] xf88.ntmps).length = 14 := rfl
  have h0 := frame_0 (.mlist 1 0 0 3) [.fn 89 [] []] xf88.ntmps
  have h1 := frame_1 (.mlist 1 0 0 3) (.fn 89 [] []) [] xf88.ntmps
  obtain ⟨i, u⟩ := u119v hX a b c
  rw [call_np hX.h88 hnp]
  generalize frame [.mlist 1 0 0 3, .fn 89 [] []] xf88.ntmps = tm at *
  simp [xf88, hl, h0, h1, u, gc_all, xresult, xrets, xret_t]
theorem u34bad {a b c : Int} (he : e3 a b c ≠ 0) (σ : Store) : Run X (.call 34) [.agg [.int .i64 a, .int .i64 b, .int .i64 c]] σ = some (.ret, [.tup [.int .i64 0, .int .i64 (e3 a b c)]], σ) := by
  refine call1 (X := X) (a := .agg [.int .i64 a, .int .i64 b, .int .i64 c]) (v := .tup [.int .i64 0, .int .i64 (e3 a b c)]) hX.h34 (by simp [AVal.strip, stripL, AVal.free, freeL]) (by decide) (fun tm hl h0 => ?_) rfl σ
  simp only [AVal.strip, stripL] at h0
  replace hl : tm.length = 27 := hl
  unfold Gives
  have u := u88v hX a b c
  unfold st3 at u
  simp [xf34, hl, h0, u, he, xresult, xrets, xret_t, Store.empty, Store.new, Store.put, Store.get, look, putL, setR, Store.only, Store.merge, touch, wrote, upTo, isIn, okRec, hits, capsOf, xcaps, stripL, AVal.strip, freeL, AVal.free, fillR, chunks, mkV, List.filter]
set_option maxHeartbeats 4000000 in
theorem u34ok {a b c : Nat} (ha : a < 32) (hb : b < 32) (hc : c < 32) (σ : Store) : Run X (.call 34) [.agg [.int .i64 a, .int .i64 b, .int .i64 c]] σ = some (.ret, [.tup [.int .i64 (voteN a b c : Nat), .int .i64 0]], σ) := by
  refine call1 (X := X) (a := .agg [.int .i64 a, .int .i64 b, .int .i64 c]) (v := .tup [.int .i64 (voteN a b c : Nat), .int .i64 0]) hX.h34 (by simp [AVal.strip, stripL, AVal.free, freeL]) (by decide) (fun tm hl h0 => ?_) rfl σ
  simp only [AVal.strip, stripL] at h0
  replace hl : tm.length = 27 := hl
  unfold Gives
  have u := u88v hX a b c
  have he : e3 (a : Int) (b : Int) (c : Int) = 0 := e3_of (chk_of ha) (chk_of hb) (chk_of hc)
  unfold st3 at u
  rw [he] at u
  have b0 : ∀ {n : Nat}, n < 32 → n < 2 ^ 63 := fun h => Nat.lt_trans h (by decide)
  have l1 : (a &&& b) < 2 ^ 63 := Nat.and_lt_two_pow _ (b0 hb)
  have l2 : (a &&& c) < 2 ^ 63 := Nat.and_lt_two_pow _ (b0 hc)
  have l3 : (b &&& c) < 2 ^ 63 := Nat.and_lt_two_pow _ (b0 hc)
  simp [xf34, hl, h0, u, and_nat (b0 ha) (b0 hb), and_nat (b0 ha) (b0 hc), and_nat (b0 hb) (b0 hc), or_nat l1 l2, or_nat (Nat.or_lt_two_pow l1 l2) l3, voteN, xload, AVal.cells, xresult, xrets, xret_t, ix1, ix2, ix3, Store.empty, Store.new, Store.put, Store.get, look, putL, setR, Store.only, Store.merge, touch, wrote, upTo, isIn, okRec, hits, capsOf, xcaps, stripL, AVal.strip, freeL, AVal.free, fillR, chunks, mkV, List.filter]
set_option maxHeartbeats 4000000 in
theorem u35 (a b c : Int) (σ : Store) : Run X (.call 35) [.agg [.int .i64 a, .int .i64 b, .int .i64 c]] σ = some (.ret, [.int .i64 (e3 a b c)], σ) := by
  refine call1 (X := X) (a := .agg [.int .i64 a, .int .i64 b, .int .i64 c]) (v := .int .i64 (e3 a b c)) hX.h35 (by simp [AVal.strip, stripL, AVal.free, freeL]) (by decide) (fun tm hl h0 => ?_) rfl σ
  simp only [AVal.strip, stripL] at h0
  replace hl : tm.length = 13 := hl
  unfold Gives
  have u := u45 hX
  have w1 : IntKind.i64.wrap 1 = 1 := by decide
  have w2 : IntKind.i64.wrap (1 + 1) = 2 := by decide
  have w3 : IntKind.i64.wrap (2 + 1) = 3 := by decide
  unfold e3 chk
  cases c1 : win a 0 31
  · simp [xf35, xf35l0, Run_loop, hl, h0, u, c1, firstNZ, xload, AVal.cells, ix1, ix2, ix3, wr1, wr2, wr3, Store.empty, Store.new, Store.put, Store.get, look, putL, setR, Store.only, Store.merge, touch, wrote, upTo, isIn, okRec, hits, capsOf, xcaps, stripL, AVal.strip, freeL, AVal.free, fillR, chunks, mkV, List.filter]
  cases c2 : win b 0 31
  · simp [xf35, xf35l0, Run_loop, hl, h0, u, c1, c2, firstNZ, xload, AVal.cells, ix1, ix2, ix3, wr1, wr2, wr3, Store.empty, Store.new, Store.put, Store.get, look, putL, setR, Store.only, Store.merge, touch, wrote, upTo, isIn, okRec, hits, capsOf, xcaps, stripL, AVal.strip, freeL, AVal.free, fillR, chunks, mkV, List.filter]
  cases c3 : win c 0 31 <;> simp [xf35, xf35l0, Run_loop, hl, h0, u, c1, c2, c3, firstNZ, xload, AVal.cells, ix1, ix2, ix3, wr1, wr2, wr3, Store.empty, Store.new, Store.put, Store.get, look, putL, setR, Store.only, Store.merge, touch, wrote, upTo, isIn, okRec, hits, capsOf, xcaps, stripL, AVal.strip, freeL, AVal.free, fillR, chunks, mkV, List.filter]
/-- The reference's loop over the signals. -/
def I36 (a b c k : Nat) (tm : List AVal) (out : Nat) (σ : Store) : Prop := tm.length = 34 ∧ XOpd.eval tm (.t 1) = .ptr 0 0 ∧ XOpd.eval tm (.t 3) = .int .i64 (out : Int) ∧ XOpd.eval tm (.t 4) = .int .i64 (k : Int) ∧ σ = st3 a b c
omit hX in
theorem and1_shr {a k : Nat} (h : (a >>> k) < 2 ^ 63) : xbits .and .i64 ((a : Int).fdiv (2 ^ k)) 1 = some ((bitN a k : Nat) : Int) := by
  rw [shr_nat]
  exact and1_nat h
omit hX in
theorem cnt_lt (a b c k : Nat) : cnt3 a b c k ≤ 3 := by
  have := bit_le a k; have := bit_le b k; have := bit_le c k
  unfold cnt3; omega
omit hX in
set_option maxHeartbeats 4000000 in
theorem round36 {a b c : Nat} (ha : a < 32) (hb : b < 32) (hc : c < 32) {k : Nat} (hk : k < 5) {out : Nat} (ho : out < 1000) (tm : List AVal) (σ : Store) (h : I36 a b c k tm out σ) :
    Ends (Run X (.code xf36l0) tm σ) .normal fun tm' σ' => I36 a b c (k + 1) tm' (stepV a b c k out) σ' := by
  obtain ⟨hl, h1, h3, h4, rfl⟩ := h
  have hm : min k IntKind.i64.bits = k := Nat.min_eq_left (by show k ≤ 64; omega)
  have hm' : min k 64 = k := Nat.min_eq_left (by omega)
  have b0 : ∀ {n : Nat}, n < 32 → ∀ k, (n >>> k) < 2 ^ 63 := fun {n} h k => by
    have := Nat.shiftRight_le n k
    have : (32 : Nat) < 2 ^ 63 := by decide
    omega
  have q1 : (k : Int) < 5 := by omega
  have q2 : ¬ (k : Int) < 0 := by omega
  have s1 := bit_le a k
  have s2 := bit_le b k
  have s3 := bit_le c k
  have wa : IntKind.i64.wrap (((bitN a k : Nat) : Int) + ((bitN b k : Nat) : Int)) = ((bitN a k : Nat) : Int) + ((bitN b k : Nat) : Int) := by
    rw [wrap_i64] <;> omega
  have wb : IntKind.i64.wrap (((bitN a k : Nat) : Int) + ((bitN b k : Nat) : Int) + ((bitN c k : Nat) : Int)) = ((bitN a k : Nat) : Int) + ((bitN b k : Nat) : Int) + ((bitN c k : Nat) : Int) := by
    rw [wrap_i64] <;> omega
  have p16 : (0 : Int) < 2 ^ k ∧ (2 : Int) ^ k ≤ 16 := by
    have : k = 0 ∨ k = 1 ∨ k = 2 ∨ k = 3 ∨ k = 4 := by omega
    rcases this with rfl | rfl | rfl | rfl | rfl <;> decide
  obtain ⟨p0, p16⟩ := p16
  have wc : IntKind.i64.wrap ((2 : Int) ^ k) = 2 ^ k := by
    generalize (2 : Int) ^ k = z at *
    rw [wrap_i64] <;> omega
  have wd : IntKind.i64.wrap ((out : Int) + 2 ^ k) = (out : Int) + 2 ^ k := by
    generalize (2 : Int) ^ k = z at *
    rw [wrap_i64] <;> omega
  have we : IntKind.i64.wrap ((k : Int) + 1) = ((k + 1 : Nat) : Int) := by
    rw [wrap_i64] <;> omega
  unfold I36 stepV st3
  by_cases hcn : 2 ≤ cnt3 a b c k
  · have hcn' : (2 : Int) ≤ ((bitN a k : Nat) : Int) + ((bitN b k : Nat) : Int) + ((bitN c k : Nat) : Int) := by unfold cnt3 at hcn; omega
    simp only [hcn, if_true]
    simp [xf36l0, hl, h1, h3, h4, q1, q2, hm, hm', and1_shr (b0 ha k), and1_shr (b0 hb k), and1_shr (b0 hc k), wa, wb, wc, wd, we, hcn', xload, AVal.cells, ix1, ix2, Store.empty, Store.new, Store.put, Store.get, look, putL, setR, Store.only, Store.merge, touch, wrote, upTo, isIn, okRec, hits, capsOf, xcaps, stripL, AVal.strip, freeL, AVal.free, fillR, chunks, mkV, List.filter]
  · have hcn' : ¬ (2 : Int) ≤ ((bitN a k : Nat) : Int) + ((bitN b k : Nat) : Int) + ((bitN c k : Nat) : Int) := by unfold cnt3 at hcn; omega
    simp only [hcn, if_false]
    simp [xf36l0, hl, h1, h3, h4, q1, q2, hm, hm', and1_shr (b0 ha k), and1_shr (b0 hb k), and1_shr (b0 hc k), wa, wb, wc, wd, we, hcn', xload, AVal.cells, ix1, ix2, Store.empty, Store.new, Store.put, Store.get, look, putL, setR, Store.only, Store.merge, touch, wrote, upTo, isIn, okRec, hits, capsOf, xcaps, stripL, AVal.strip, freeL, AVal.free, fillR, chunks, mkV, List.filter]
omit hX in
theorem exit36 {a b c out : Nat} {tm : List AVal} {σ : Store} (h : I36 a b c 5 tm out σ) : Ends (Run X (.code xf36l0) tm σ) (.exit 0) fun tm' σ' => tm'.length = 34 ∧ XOpd.eval tm' (.t 3) = .int .i64 (out : Int) := by
  obtain ⟨q1, q2, q3, q4, q5⟩ := h
  simp [xf36l0, q1, q2, q3, q4]
theorem u36 {a b c : Nat} (ha : a < 32) (hb : b < 32) (hc : c < 32) (σ : Store) : Run X (.call 36) [.agg [.int .i64 a, .int .i64 b, .int .i64 c]] σ = some (.ret, [.int .i64 (refV a b c : Nat)], σ) := by
  refine call1 (X := X) (a := .agg [.int .i64 a, .int .i64 b, .int .i64 c]) (v := .int .i64 (refV a b c : Nat)) hX.h36 (by simp [AVal.strip, stripL, AVal.free, freeL]) (by decide) (fun tm hl h0 => ?_) rfl σ
  simp only [AVal.strip, stripL] at h0
  replace hl : tm.length = 34 := hl
  unfold Gives
  have hb5 : ∀ (k out : Nat), k < 5 → out < 900 → stepV a b c k out < out + 32 := fun k out hk _ => by
    have : k = 0 ∨ k = 1 ∨ k = 2 ∨ k = 3 ∨ k = 4 := by omega
    unfold stepV
    split
    · rcases this with rfl | rfl | rfl | rfl | rfl <;> omega
    · omega
  have r := fun k hk out ho tm σ h => out_of (round36 (X := X) ha hb hc (k := k) hk (out := out) ho tm σ h)
  have b1 := hb5 0 0 (by omega) (by omega)
  have b2 := hb5 1 _ (by omega) (show stepV a b c 0 0 < 900 by omega)
  have b3 := hb5 2 _ (by omega) (show stepV a b c 1 (stepV a b c 0 0) < 900 by omega)
  have b4 := hb5 3 _ (by omega) (show stepV a b c 2 (stepV a b c 1 (stepV a b c 0 0)) < 900 by omega)
  have eP : Ends (Run X (.code (XCode.cutP 2 xf36.body)) tm Store.empty) .normal fun tm' σ' => tm'.length = 34 ∧ XOpd.eval tm' (.t 1) = .ptr 0 0 ∧ XOpd.eval tm' (.t 3) = .int .i64 0 ∧ XOpd.eval tm' (.t 4) = .int .i64 0 ∧ σ' = st3 a b c := by
    simp [xf36, XCode.cutP, hl, h0, st3, Store.empty, Store.new, Store.put, Store.get, look, putL, setR, Store.only, Store.merge, touch, wrote, upTo, isIn, okRec, hits, capsOf, xcaps, stripL, AVal.strip, freeL, AVal.free, fillR, chunks, mkV, List.filter]
  have lp : ∀ tm σ, I36 a b c 0 tm 0 σ → Ends (Run X (.code (.loop xf36l0)) tm σ) (.exit 0) fun tm' σ' => tm'.length = 34 ∧ XOpd.eval tm' (.t 3) = .int .i64 ((refV a b c : Nat) : Int) := by
    intro tm σ h
    obtain ⟨o1, p1⟩ := r 0 (by omega) 0 (by omega) tm σ h
    obtain ⟨o2, p2⟩ := r 1 (by omega) _ (by omega) _ _ p1
    obtain ⟨o3, p3⟩ := r 2 (by omega) _ (by omega) _ _ p2
    obtain ⟨o4, p4⟩ := r 3 (by omega) _ (by omega) _ _ p3
    obtain ⟨o5, p5⟩ := r 4 (by omega) _ (by omega) _ _ p4
    rw [Run_loop, o1, thenC_normal, Run_loop, o2, thenC_normal, Run_loop, o3, thenC_normal, Run_loop, o4, thenC_normal, Run_loop, o5, thenC_normal, Run_loop]
    obtain ⟨o6, p6⟩ := out_of (exit36 (X := X) p5)
    rw [o6, thenC_exit]
    exact ⟨_, _, rfl, p6⟩
  obtain ⟨oP, p1, p2, p3, p5, p4⟩ := out_of eP
  obtain ⟨q1, q2, q3⟩ := out_of (lp _ _ ⟨p1, p2, p3, p5, p4⟩)
  rw [Run_cut 2, oP, thenC_normal, show XCode.cutB 2 xf36.body = .block 0 (.loop xf36l0) from rfl, Run_block, q1, blockC_exit]
  generalize outT X (.loop xf36l0) _ _ = tm3 at *
  generalize outS X (.loop xf36l0) _ _ = σ3 at *
  simp [xf36, XCode.cutR, q2, q3]
end
end Go.Proofs.Ytjbegiaceekgcaa.Eng

/-
  SEQUENCE: the law of votes.
-/
namespace Go.Proofs.Ytjbegiaceekgcaa.Eng
set_option linter.unusedSimpArgs false
set_option linter.unusedVariables false
section
variable {X : FuncId → Option XFunc} (hX : SqACode X)
include hX
omit hX in
set_option maxHeartbeats 4000000 in
theorem u6key (aw : ∀ σ, Run X (.call 8) [] σ = some (.ret, [.bool true], σ)) {t : Int} {tm : List AVal} (hl : tm.length = 54) (h1 : XOpd.eval tm (.t 1) = .int .i64 t) (A B C : Int) (V : Nat) (q1 q2 q3 : Bool) (e1 : decide (A = t) = q1) (e2 : decide (B = t) = q2) (e3 : decide (C = t) = q3) (v1 : ∀ σ, Run X (.call 34) [.agg [.int .i64 A, .int .i64 B, .int .i64 C]] σ = some (.ret, [.tup [.int .i64 (V : Int), .int .i64 0]], σ)) (v2 : ∀ σ, Run X (.call 35) [.agg [.int .i64 A, .int .i64 B, .int .i64 C]] σ = some (.ret, [.int .i64 0], σ)) (v3 : ∀ σ, Run X (.call 36) [.agg [.int .i64 A, .int .i64 B, .int .i64 C]] σ = some (.ret, [.int .i64 (V : Int)], σ)) (vr : (if q1 then (0 : Int) else 1) + (if q2 then 0 else 1) + (if q3 then 0 else 1) ≤ 1 → (V : Int) = t) (h0 : XOpd.eval tm (.t 0) = .agg [.int .i64 A, .int .i64 B, .int .i64 C]) : givesR xf6.results (.bool true) (Run X (.code xf6.body) tm Store.empty) := by
  cases q1 <;> cases q2 <;> cases q3 <;> simp at vr e1 e2 e3 <;> subst_vars <;>
    simp [xf6, xf6l0, Run_loop, *, xload, AVal.cells, ix1, ix2, ix3, wr1, wr2, wr3, Store.empty, Store.new, Store.put, Store.get, look, putL, setR, Store.only, Store.merge, touch, wrote, upTo, isIn, okRec, hits, capsOf, xcaps, stripL, AVal.strip, freeL, AVal.free, fillR, chunks, mkV, List.filter]
set_option maxHeartbeats 4000000 in
theorem u6ok (aw : ∀ σ, Run X (.call 8) [] σ = some (.ret, [.bool true], σ)) {a b c : Nat} (ha : a < 32) (hb : b < 32) (hc : c < 32) (t : Int) (σ : Store) : Run X (.call 6) [.agg [.int .i64 a, .int .i64 b, .int .i64 c], .int .i64 t] σ = some (.ret, [.bool true], σ) := by
  refine call2 (a := .agg [.int .i64 a, .int .i64 b, .int .i64 c]) (b := .int .i64 t) (v := .bool true) hX.h6 rfl rfl (by decide) (fun tm hl h0 h1 => ?_) rfl σ
  simp only [AVal.strip, stripL] at h0 h1
  replace hl : tm.length = 54 := hl
  have he : e3 (a : Int) (b : Int) (c : Int) = 0 := e3_of (chk_of ha) (chk_of hb) (chk_of hc)
  have v1 := u34ok hX ha hb hc
  have v2 := u35 hX (a : Int) (b : Int) (c : Int)
  have v3 := u36 hX ha hb hc
  rw [he] at v2
  rw [← vote_dec a ha b hb c hc] at v3
  have vr := vote_right (a := a) (b := b) (c := c) (t := t)
  unfold wrongs at vr
  generalize voteN a b c = V at *
  unfold Gives
  refine u6key aw hl h1 a b c V _ _ _ rfl rfl rfl v1 v2 v3 ?_ h0
  simpa using vr
set_option maxHeartbeats 4000000 in
theorem u6bad (aw : ∀ σ, Run X (.call 8) [] σ = some (.ret, [.bool true], σ)) {a b c : Int} (he : e3 a b c ≠ 0) (t : Int) (σ : Store) : Run X (.call 6) [.agg [.int .i64 a, .int .i64 b, .int .i64 c], .int .i64 t] σ = some (.ret, [.bool true], σ) := by
  refine call2 (a := .agg [.int .i64 a, .int .i64 b, .int .i64 c]) (b := .int .i64 t) (v := .bool true) hX.h6 rfl rfl (by decide) (fun tm hl h0 h1 => ?_) rfl σ
  simp only [AVal.strip, stripL] at h0 h1
  replace hl : tm.length = 54 := hl
  have v1 := u34bad hX he
  have v2 := u35 hX a b c
  unfold Gives
  simp [xf6, hl, h0, h1, aw, v1, v2, he, xload, AVal.cells, Store.empty, Store.new, Store.put, Store.get, look, putL, setR, Store.only, Store.merge, touch, wrote, upTo, isIn, okRec, hits, capsOf, xcaps, stripL, AVal.strip, freeL, AVal.free, fillR, chunks, mkV, List.filter]
theorem u6 (aw : ∀ σ, Run X (.call 8) [] σ = some (.ret, [.bool true], σ)) (a b c t : Int) (σ : Store) : Run X (.call 6) [.agg [.int .i64 a, .int .i64 b, .int .i64 c], .int .i64 t] σ = some (.ret, [.bool true], σ) := by
  by_cases he : e3 a b c = 0
  · obtain ⟨h1, h2, h3⟩ := e3_ok he
    obtain ⟨x, rfl, hx⟩ := chk_ok h1
    obtain ⟨y, rfl, hy⟩ := chk_ok h2
    obtain ⟨z, rfl, hz⟩ := chk_ok h3
    exact u6ok hX aw hx hy hz t σ
  · exact u6bad hX aw he t σ
end
end Go.Proofs.Ytjbegiaceekgcaa.Eng

/-
  SqAFacts: the compiled code is what it is.
-/
namespace Go.Proofs.Ytjbegiaceekgcaa.Eng
open Go.Proofs
theorem sqA_code : SqACode (xprog Try.prog [2000054, 127, 2000114, 2000097, 4000003, 2000033]) where
  h6 := by kernel_rfl
  h34 := by kernel_rfl
  h35 := by kernel_rfl
  h36 := by kernel_rfl
  h88 := by kernel_rfl
  h89 := by kernel_rfl
  h90 := by kernel_rfl
  h119 := by kernel_rfl
  h55 := by kernel_rfl
  h56 := by kernel_rfl
  h112 := by kernel_rfl
  h45 := by kernel_rfl
end Go.Proofs.Ytjbegiaceekgcaa.Eng

/-
  SequenceVotes: its computed cells, one by one.
-/
namespace Go.Proofs.Ytjbegiaceekgcaa
theorem sequenceVotes_j0 : (Rows.sequenceVotesRow.inPlace == Try.checked.prog.inPlace 6) = true := by kernel_rfl
theorem sequenceVotes_j1 : (Rows.sequenceVotesRow.unfollowed == Try.checked.prog.unfollowed 6) = true := by kernel_rfl
theorem sequenceVotes_j2 : (Rows.sequenceVotesRow.recurses == Try.checked.prog.recurses 6) = true := by kernel_rfl
theorem sequenceVotes_j3 : (Rows.sequenceVotesRow.named == Try.checked.prog.varsNamed 6) = true := by kernel_rfl
theorem sequenceVotes_j4 : (Rows.sequenceVotesRow.plainKeys == Try.checked.prog.plainKeys) = true := by kernel_rfl
theorem sequenceVotes_j5 : (Rows.sequenceVotesRow.lifted == Try.checked.prog.liftsFinal) = true := by kernel_rfl
theorem sequenceVotes_j6 : (Try.checked.prog.stopsHeard) = true := by kernel_rfl
theorem sequenceVotes_j7 : (Try.checked.prog.mayEnter) = true := by kernel_rfl
theorem sequenceVotes_j8 : (laidOutB Try.checked.prog) = true := by kernel_rfl
theorem sequenceVotes_j9 : (mapsRowed Try.checked.prog) = true := by kernel_rfl
theorem sequenceVotes_joined : joinedFacts Try.checked.prog 6 Try.f6 Rows.sequenceVotesSpec Rows.sequenceVotesRow = true := by
  unfold joinedFacts
  rw [sequenceVotes_j0, sequenceVotes_j1, sequenceVotes_j2, sequenceVotes_j3, sequenceVotes_j4, sequenceVotes_j5, sequenceVotes_j6, sequenceVotes_j7, sequenceVotes_j8, sequenceVotes_j9]
  kernel_rfl
end Go.Proofs.Ytjbegiaceekgcaa
