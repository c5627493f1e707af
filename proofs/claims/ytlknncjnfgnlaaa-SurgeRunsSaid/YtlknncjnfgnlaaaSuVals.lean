/-
  Values of the rows' types.
-/
import Derived.Test.YtlknncjnfgnlaaaSuPBase
import Derived.Test.YtlknncjnfgnlaaaSuRun1
namespace Go.Proofs.Ytlknncjnfgnlaaa
open Go.ChangeShapes Go.WideShapes Go.ChangeAt Go.RowKit Go.Proofs.Ytlknncjnfgnlaaa.Eng
set_option linter.unusedSimpArgs false
set_option linter.unusedVariables false
theorem range_val {v : AVal} (h : HasV Try.prog 23 v) : ∃ x y, v = .agg [.int .i64 x, .int .i64 y] := by
  obtain ⟨vs, rfl, hl, hv⟩ := h.struct_inv Try.underlying23
  match vs, hl with
  | [a, b], _ =>
    obtain ⟨x, rfl, _⟩ := (hv 0 _ _ rfl rfl).int_inv Try.underlying3
    obtain ⟨y, rfl, _⟩ := (hv 1 _ _ rfl rfl).int_inv Try.underlying3
    exact ⟨x, y, rfl⟩
theorem rules_val {v : AVal} (h : HasV Try.prog 25 v) : ∃ r : Ru, v = r.enc := by
  obtain ⟨vs, rfl, hl, hv⟩ := h.struct_inv Try.underlying25
  match vs, hl with
  | [a, b, c, d], _ =>
    obtain ⟨x, rfl, _⟩ := (hv 0 _ _ rfl rfl).int_inv Try.underlying3
    obtain ⟨y, rfl, _⟩ := (hv 1 _ _ rfl rfl).int_inv Try.underlying3
    obtain ⟨p, q, rfl⟩ := range_val (hv 2 _ _ rfl rfl)
    obtain ⟨z, rfl, _⟩ := (hv 3 _ _ rfl rfl).int_inv Try.underlying3
    exact ⟨⟨x, y, p, q, z⟩, rfl⟩
theorem state_val {v : AVal} (h : HasV Try.prog 27 v) : ∃ s : Int × Int, v = st s := by
  obtain ⟨vs, rfl, hl, hv⟩ := h.struct_inv Try.underlying27
  match vs, hl with
  | [a, b], _ =>
    obtain ⟨x, rfl, _⟩ := (hv 0 _ _ rfl rfl).int_inv Try.underlying3
    obtain ⟨y, rfl, _⟩ := (hv 1 _ _ rfl rfl).int_inv Try.underlying3
    exact ⟨(x, y), rfl⟩
theorem step_val {v : AVal} (h : HasV Try.prog 29 v) : ∃ x y, v = .agg [.int .i64 x, .int .i64 y] := by
  obtain ⟨vs, rfl, hl, hv⟩ := h.struct_inv Try.underlying29
  match vs, hl with
  | [a, b], _ =>
    obtain ⟨x, rfl, _⟩ := (hv 0 _ _ rfl rfl).int_inv Try.underlying3
    obtain ⟨y, rfl, _⟩ := (hv 1 _ _ rfl rfl).int_inv Try.underlying3
    exact ⟨x, y, rfl⟩
end Go.Proofs.Ytlknncjnfgnlaaa
