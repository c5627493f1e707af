/-
  Values of the rows' types.
-/
import Derived.Test.YtenlllgjfbifbaaGreatGvPBase
import Derived.Test.YtenlllgjfbifbaaGreatGvRun1
namespace Go.Proofs.YtenlllgjfbifbaaGreat
open Go.ChangeShapes Go.WideShapes Go.ChangeAt Go.RowKit Go.Proofs.YtenlllgjfbifbaaGreat.Eng
set_option linter.unusedSimpArgs false
set_option linter.unusedVariables false
theorem gate_val {v : AVal} (h : HasV Tryz.prog 23 v) : ∃ g : Gt, v = g.enc := by
  obtain ⟨vs, rfl, hl, hv⟩ := h.struct_inv Tryz.underlying23
  match vs, hl with
  | [a, b, c, d], _ =>
    obtain ⟨x, rfl, _⟩ := (hv 0 _ _ rfl rfl).int_inv Tryz.underlying3
    obtain ⟨y, rfl, _⟩ := (hv 1 _ _ rfl rfl).int_inv Tryz.underlying3
    obtain ⟨z, rfl, _⟩ := (hv 2 _ _ rfl rfl).int_inv Tryz.underlying3
    obtain ⟨u, rfl, _⟩ := (hv 3 _ _ rfl rfl).int_inv Tryz.underlying3
    exact ⟨⟨x, y, z, u⟩, rfl⟩
theorem grules_val {v : AVal} (h : HasV Tryz.prog 25 v) : ∃ r : Rl, v = r.enc := by
  obtain ⟨vs, rfl, hl, hv⟩ := h.struct_inv Tryz.underlying25
  match vs, hl with
  | [a, b, c, d], _ =>
    obtain ⟨x, rfl, _⟩ := (hv 0 _ _ rfl rfl).int_inv Tryz.underlying3
    obtain ⟨y, rfl, _⟩ := (hv 1 _ _ rfl rfl).int_inv Tryz.underlying3
    obtain ⟨z, rfl, _⟩ := (hv 2 _ _ rfl rfl).int_inv Tryz.underlying3
    obtain ⟨u, rfl, _⟩ := (hv 3 _ _ rfl rfl).int_inv Tryz.underlying3
    exact ⟨⟨x, y, z, u⟩, rfl⟩
end Go.Proofs.YtenlllgjfbifbaaGreat
