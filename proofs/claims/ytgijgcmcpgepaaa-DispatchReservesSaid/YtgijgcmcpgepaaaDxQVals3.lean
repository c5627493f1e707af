/-
  Values of the rows' types: reserves.
-/
import Derived.Test.YtgijgcmcpgepaaaDxQVals2
import Derived.Test.YtgijgcmcpgepaaaDxRun2
namespace Go.Proofs.Ytgijgcmcpgepaaa
open Go.ChangeShapes Go.WideShapes Go.ChangeAt Go.RowKit Go.Proofs.Ytgijgcmcpgepaaa.Eng
set_option linter.unusedSimpArgs false
set_option linter.unusedVariables false
theorem reserve_val {v : AVal} (h : HasV Try.prog 60 v) : ∃ (P : List Int) (p : AVal) (m : Int), v = rvV p m ∧ IntV P p := by
  obtain ⟨vs, rfl, hl, hv⟩ := h.struct_inv Try.underlying60
  match vs, hl with
  | [a, b], _ =>
    obtain ⟨P, hP⟩ := ints_val (hv 0 _ _ rfl rfl)
    obtain ⟨y, rfl, _⟩ := (hv 1 _ _ rfl rfl).int_inv Try.underlying3
    refine ⟨P, a, y, ?_, hP⟩
    rcases hP with rfl | ⟨rfl, _⟩ <;> rfl
end Go.Proofs.Ytgijgcmcpgepaaa
