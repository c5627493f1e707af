/-
  Values of the rows' types.
-/
import Derived.Test.YtgijgcmcpgepaaaDxQBase
import Derived.Test.YtgijgcmcpgepaaaDxRun1
namespace Go.Proofs.Ytgijgcmcpgepaaa
open Go.ChangeShapes Go.WideShapes Go.ChangeAt Go.RowKit Go.Proofs.Ytgijgcmcpgepaaa.Eng
set_option linter.unusedSimpArgs false
set_option linter.unusedVariables false
theorem cells3 : Try.prog.cellsOf 3 = 1 := by kernel_rfl
theorem ints_list : ∀ {xs : List AVal}, (∀ y ∈ xs, HasV Try.prog 3 y) → ∃ L, xs = ints L
  | [], _ => ⟨[], rfl⟩
  | x :: xs, h => by
    obtain ⟨u, rfl, _⟩ := (h x (by simp)).int_inv Try.underlying3
    obtain ⟨L, rfl⟩ := ints_list (xs := xs) fun y hy => h y (by simp [hy])
    exact ⟨u :: L, rfl⟩
theorem ints_val {v : AVal} (h : HasV Try.prog 28 v) : ∃ L, IntV L v := by
  rcases h.slice_inv Try.underlying28 with rfl | ⟨xs, rfl, _, hx⟩
  · exact ⟨[], .inr ⟨rfl, rfl⟩⟩
  · obtain ⟨L, rfl⟩ := ints_list hx
    exact ⟨L, .inl (by rw [cells3])⟩
theorem ramp_val {v : AVal} (h : HasV Try.prog 74 v) : ∃ s r : Int, v = .agg [.int .i64 s, .int .i64 r] := by
  obtain ⟨vs, rfl, hl, hv⟩ := h.struct_inv Try.underlying74
  match vs, hl with
  | [a, b], _ =>
    obtain ⟨x, rfl, _⟩ := (hv 0 _ _ rfl rfl).int_inv Try.underlying3
    obtain ⟨y, rfl, _⟩ := (hv 1 _ _ rfl rfl).int_inv Try.underlying3
    exact ⟨x, y, rfl⟩
end Go.Proofs.Ytgijgcmcpgepaaa
