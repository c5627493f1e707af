/-
  LAKE: what the rows of pairs share.
-/
import Derived.Test.YtbpflcilndinfaaLakeRows
import Derived.Test.YtbpflcilndinfaaPairFacts
namespace Go.Proofs.Ytbpflcilndinfaa
open Go.ChangeShapes Go.WideShapes Go.ChangeAt Go.RowKit Go.Proofs.Ytbpflcilndinfaa.Eng
set_option linter.unusedSimpArgs false
set_option linter.unusedVariables false
theorem pair_val {v : AVal} (h : HasV Try.prog 53 v) : ∃ a b u w r, KL a u ∧ KL b w ∧ v = .agg [u, w, .int .i64 r] := by
  obtain ⟨vs, rfl, hl, hv⟩ := h.struct_inv Try.underlying53
  match vs, hl with
  | [x, y, z], _ =>
    obtain ⟨a, u, hu, rfl⟩ := tab_val (hv 0 _ _ rfl rfl)
    obtain ⟨b, w, hw, rfl⟩ := tab_val (hv 1 _ _ rfl rfl)
    obtain ⟨r, rfl, _⟩ := (hv 2 _ _ rfl rfl).int_inv Try.underlying3
    exact ⟨a, b, u, w, r, hu, hw, rfl⟩
theorem state_val {v : AVal} (h : HasV Try.prog 55 v) : ∃ x y, v = .agg [.int .i64 x, .int .i64 y] := by
  obtain ⟨vs, rfl, hl, hv⟩ := h.struct_inv Try.underlying55
  match vs, hl with
  | [a, b], _ =>
    obtain ⟨x, rfl, _⟩ := (hv 0 _ _ rfl rfl).int_inv Try.underlying3
    obtain ⟨y, rfl, _⟩ := (hv 1 _ _ rfl rfl).int_inv Try.underlying3
    exact ⟨x, y, rfl⟩
theorem flows_val {v : AVal} (h : HasV Try.prog 57 v) : ∃ x y z, v = .agg [.int .i64 x, .int .i64 y, .int .i64 z] := by
  obtain ⟨vs, rfl, hl, hv⟩ := h.struct_inv Try.underlying57
  match vs, hl with
  | [a, b, c], _ =>
    obtain ⟨x, rfl, _⟩ := (hv 0 _ _ rfl rfl).int_inv Try.underlying3
    obtain ⟨y, rfl, _⟩ := (hv 1 _ _ rfl rfl).int_inv Try.underlying3
    obtain ⟨z, rfl, _⟩ := (hv 2 _ _ rfl rfl).int_inv Try.underlying3
    exact ⟨x, y, z, rfl⟩
end Go.Proofs.Ytbpflcilndinfaa
