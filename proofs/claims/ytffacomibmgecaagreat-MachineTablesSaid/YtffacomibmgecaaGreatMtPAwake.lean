/-
  The examples hold.
-/
import Derived.Test.YtffacomibmgecaaGreatEng1
import Derived.Test.YtffacomibmgecaaGreatCode1
import Derived.Test.YtffacomibmgecaaGreatMtAwA
import Derived.Test.YtffacomibmgecaaGreatMtAwB
import Derived.Test.YtffacomibmgecaaGreatMtAwC
import Derived.Test.YtffacomibmgecaaGreatMtAwD
import Derived.Test.YtffacomibmgecaaGreatMtAwE
import Derived.Test.YtffacomibmgecaaGreatMtAwF
import Derived.Test.YtffacomibmgecaaGreatMtAwG
namespace Go.Proofs.YtffacomibmgecaaGreat.Eng
open Go.Proofs
set_option linter.unusedSimpArgs false
set_option linter.unusedVariables false
theorem xawX : MtAwXCode (xprog Tryz.prog [180, 1000190]) where
  h15 := by kernel_rfl
theorem ex_any {f : FuncId} {args : List AVal} {v : AVal} {n : Nat} (hf : freeL (stripL args) = true) (h : run (xprog Tryz.prog [180, 1000190]) n (.call f) args Store.empty = some (.ret, [v], Store.empty)) (σ : Store) : Run (xprog Tryz.prog [180, 1000190]) (.call f) args σ = some (.ret, [v], σ) :=
  pure_any hf ((Run_iff _ _ _ _ _).mpr ⟨_, h⟩) σ
theorem awake15 {X : FuncId → Option XFunc} (hX : MtAwXCode X) (ea : ∀ σ, Run X (.call 76) [] σ = some (.ret, [exTab], σ)) (eb : ∀ σ, Run X (.call 19) [exTab] σ = some (.ret, [.tup [.int .i64 7600, .int .i64 0]], σ))
    (ec : ∀ σ, Run X (.call 77) [.int .i64 15] σ = some (.ret, [.agg [.int .i64 15, .int .i64 1]], σ)) (ed : ∀ σ, Run X (.call 32) [exTab, .agg [.int .i64 15, .int .i64 1], .int .i64 75] σ = some (.ret, [.tup [.list 2 [.agg [.int .i64 15, .int .i64 1]] none, .int .i64 0]], σ))
    (ee : ∀ σ, Run X (.call 39) [exTab, .agg [.int .i64 15, .int .i64 1], .agg [.int .i64 150, .int .i64 10, .int .i64 1]] σ = some (.ret, [.tup [.list 6 [.agg [.int .i64 37100, .int .i64 251, .int .i64 5500, .int .i64 251, .int .i64 469750, .int .i64 251]] none, .int .i64 0]], σ))
    (ef : ∀ σ, Run X (.call 53) [exTab, .int .i64 100] σ = some (.ret, [.tup [.agg [.int .i64 2000, .int .i64 1], .int .i64 0]], σ))
    (eg : ∀ σ, Run X (.call 38) [.list 2 [.agg [.int .i64 15, .int .i64 1]] none, .list 2 [.agg [.int .i64 15, .int .i64 1]] none] σ = some (.ret, [.bool true], σ))
    (eh : ∀ σ, Run X (.call 77) [.int .i64 2000] σ = some (.ret, [.agg [.int .i64 2000, .int .i64 1]], σ)) (σ : Store) : Run X (.call 15) [] σ = some (.ret, [.bool true], σ) := by
  have eg' : ∀ t σ, Run X (.call 38) [.list 2 [.agg [.int .i64 15, .int .i64 1]] none, .list 2 [.agg [.int .i64 15, .int .i64 1]] t] σ = some (.ret, [.bool true], σ) := fun t σ => by rw [call_stripped rfl]; exact eg σ
  have st : exTab.strip = exTab := by simp [exTab, AVal.strip, stripL]
  have fr : exTab.free = true := by simp [exTab, AVal.free, freeL]
  refine call_pure (v := .bool true) hX.h15 rfl ?_ rfl σ
  have hl : (stripL [] ++ List.replicate (xf15.ntmps - (stripL []).length) aundef).length = 74 := by simp [stripL, xf15]
  generalize stripL [] ++ List.replicate (xf15.ntmps - (stripL []).length) aundef = tm at *
  unfold Gives
  simp [xf15, hl, ea, eb, ec, ed, ee, ef, eg', eh, st, fr, Store.empty, Store.new, Store.put, Store.get, look, putL, setR, Store.only, Store.merge, touch, wrote, upTo, isIn, okRec, hits, capsOf, xcaps, stripL, AVal.strip, freeL, AVal.free, fillR, chunks, mkV, List.filter]
theorem awake_true (σ : Store) : Run (xprog Tryz.prog [180, 1000190]) (.call 15) [] σ = some (.ret, [.bool true], σ) :=
  awake15 xawX (ex_any rfl exam76) (ex_any (by simp [exTab, AVal.strip, stripL, AVal.free, freeL]) exam19) (ex_any rfl exam77) (ex_any (by simp [exTab, AVal.strip, stripL, AVal.free, freeL]) exam32) (ex_any (by simp [exTab, AVal.strip, stripL, AVal.free, freeL]) exam39) (ex_any (by simp [exTab, AVal.strip, stripL, AVal.free, freeL]) exam53) (ex_any rfl exam38) (ex_any rfl exam77b) σ
end Go.Proofs.YtffacomibmgecaaGreat.Eng
