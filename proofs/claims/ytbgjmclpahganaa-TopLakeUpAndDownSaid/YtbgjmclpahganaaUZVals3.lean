/-
  Values of the rows' types: tasks.
-/
import Derived.Test.YtbgjmclpahganaaUZVals
import Derived.Test.YtbgjmclpahganaaVio1
namespace Go.Proofs.Ytbgjmclpahganaa
open Go.ChangeShapes Go.WideShapes Go.ChangeAt Go.RowKit Go.Proofs.Ytbgjmclpahganaa.Eng
set_option linter.unusedSimpArgs false
set_option linter.unusedVariables false
theorem range_val {v : AVal} (h : HasV Try.prog 30 v) : ∃ x y, v = .agg [.int .i64 x, .int .i64 y] := by
  obtain ⟨vs, rfl, hl, hv⟩ := h.struct_inv Try.underlying30
  match vs, hl with
  | [a, b], _ =>
    obtain ⟨x, rfl, _⟩ := (hv 0 _ _ rfl rfl).int_inv Try.underlying3
    obtain ⟨y, rfl, _⟩ := (hv 1 _ _ rfl rfl).int_inv Try.underlying3
    exact ⟨x, y, rfl⟩
theorem lim_val {v : AVal} (h : HasV Try.prog 32 v) : ∃ L : Lim, v = .agg L.cells := by
  obtain ⟨vs, rfl, hl, hv⟩ := h.struct_inv Try.underlying32
  match vs, hl with
  | [a, b, c, d], _ =>
    obtain ⟨x, y, rfl⟩ := range_val (hv 0 _ _ rfl rfl)
    obtain ⟨z, rfl, _⟩ := (hv 1 _ _ rfl rfl).int_inv Try.underlying3
    obtain ⟨w, rfl, _⟩ := (hv 2 _ _ rfl rfl).int_inv Try.underlying3
    obtain ⟨n, rfl, _⟩ := (hv 3 _ _ rfl rfl).int_inv Try.underlying3
    exact ⟨(x, y, z, w, n), rfl⟩
theorem lims_val {v : AVal} (h : HasV Try.prog 34 v) : ∃ L M : Lim, v = .agg (L.cells ++ M.cells) := by
  obtain ⟨vs, rfl, hl, hv⟩ := h.struct_inv Try.underlying34
  match vs, hl with
  | [a, b], _ =>
    obtain ⟨L, rfl⟩ := lim_val (hv 0 _ _ rfl rfl)
    obtain ⟨M, rfl⟩ := lim_val (hv 1 _ _ rfl rfl)
    exact ⟨L, M, rfl⟩
theorem task_val {v : AVal} (h : HasV Try.prog 37 v) : ∃ (L M : Lim) (l : List Rd) (w : AVal), RL l w ∧ v = .agg (L.cells ++ M.cells ++ [w]) := by
  obtain ⟨vs, rfl, hl, hv⟩ := h.struct_inv Try.underlying37
  match vs, hl with
  | [a, b], _ =>
    obtain ⟨L, M, rfl⟩ := lims_val (hv 0 _ _ rfl rfl)
    obtain ⟨l, hw⟩ := flows_has (hv 1 _ _ rfl rfl)
    refine ⟨L, M, l, b, hw, ?_⟩
    rcases hw with ⟨rfl, _⟩ | rfl <;> rfl
end Go.Proofs.Ytbgjmclpahganaa
