/-
  Values of the rows' types: tasks.
-/
import Derived.Test.YtbgjmclpahganaaGreatVZVals2
import Derived.Test.YtbgjmclpahganaaGreatVio1
namespace Go.Proofs.YtbgjmclpahganaaGreat
open Go.ChangeShapes Go.WideShapes Go.ChangeAt Go.RowKit Go.Proofs.YtbgjmclpahganaaGreat.Eng
set_option linter.unusedSimpArgs false
set_option linter.unusedVariables false
theorem lim_val {v : AVal} (h : HasV Tryz.prog 50 v) : ∃ L : Lim, v = .agg L.cells := by
  obtain ⟨vs, rfl, hl, hv⟩ := h.struct_inv Tryz.underlying50
  match vs, hl with
  | [a, b, c, d], _ =>
    obtain ⟨x, y, rfl⟩ := range_val (hv 0 _ _ rfl rfl)
    obtain ⟨z, rfl, _⟩ := (hv 1 _ _ rfl rfl).int_inv Tryz.underlying3
    obtain ⟨w, rfl, _⟩ := (hv 2 _ _ rfl rfl).int_inv Tryz.underlying3
    obtain ⟨n, rfl, _⟩ := (hv 3 _ _ rfl rfl).int_inv Tryz.underlying3
    exact ⟨(x, y, z, w, n), rfl⟩
theorem lims_val {v : AVal} (h : HasV Tryz.prog 52 v) : ∃ L M : Lim, v = .agg (L.cells ++ M.cells) := by
  obtain ⟨vs, rfl, hl, hv⟩ := h.struct_inv Tryz.underlying52
  match vs, hl with
  | [a, b], _ =>
    obtain ⟨L, rfl⟩ := lim_val (hv 0 _ _ rfl rfl)
    obtain ⟨M, rfl⟩ := lim_val (hv 1 _ _ rfl rfl)
    exact ⟨L, M, rfl⟩
theorem task_val {v : AVal} (h : HasV Tryz.prog 54 v) : ∃ (L M : Lim) (l : List Rdg) (w : AVal), RL l w ∧ v = .agg (L.cells ++ M.cells ++ [w]) := by
  obtain ⟨vs, rfl, hl, hv⟩ := h.struct_inv Tryz.underlying54
  match vs, hl with
  | [a, b], _ =>
    obtain ⟨L, M, rfl⟩ := lims_val (hv 0 _ _ rfl rfl)
    obtain ⟨l, hw⟩ := flows_has (hv 1 _ _ rfl rfl)
    refine ⟨L, M, l, b, hw, ?_⟩
    rcases hw with ⟨rfl, _⟩ | rfl <;> rfl
end Go.Proofs.YtbgjmclpahganaaGreat
