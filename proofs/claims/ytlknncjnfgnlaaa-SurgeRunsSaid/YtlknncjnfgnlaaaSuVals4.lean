/-
  Values of runs.
-/
import Derived.Test.YtlknncjnfgnlaaaSuVals3
import Derived.Test.YtlknncjnfgnlaaaSuRun1
namespace Go.Proofs.Ytlknncjnfgnlaaa
open Go.ChangeShapes Go.WideShapes Go.ChangeAt Go.RowKit Go.Proofs.Ytlknncjnfgnlaaa.Eng
set_option linter.unusedSimpArgs false
set_option linter.unusedVariables false
theorem cells3 : Try.prog.cellsOf 3 = 1 := by kernel_rfl
theorem ints_list : ∀ {xs : List AVal}, (∀ y ∈ xs, HasV Try.prog 3 y) → ∃ L, xs = ints L
  | [], _ => ⟨[], rfl⟩
  | x :: xs, h => by
    obtain ⟨u, rfl, _⟩ := (h x (by simp)).int_inv Try.underlying3
    obtain ⟨L, rfl⟩ := ints_list (xs := xs) fun y hy => h y (by simp [hy])
    exact ⟨u :: L, rfl⟩
theorem ints_val {v : AVal} (h : HasV Try.prog 44 v) : ∃ L, IL L v := by
  rcases h.slice_inv Try.underlying44 with rfl | ⟨xs, rfl, _, hx⟩
  · exact ⟨[], .inl ⟨rfl, rfl⟩⟩
  · obtain ⟨L, rfl⟩ := ints_list hx
    exact ⟨L, .inr (by rw [cells3])⟩
theorem run_val {v : AVal} (h : HasV Try.prog 46 v) : ∃ L w k, IL L w ∧ v = .agg [w, .int .i64 k] := by
  obtain ⟨vs, rfl, hl, hv⟩ := h.struct_inv Try.underlying46
  match vs, hl with
  | [x, y], _ =>
    obtain ⟨L, hw⟩ := ints_val (hv 0 _ _ rfl rfl)
    obtain ⟨k, rfl, _⟩ := (hv 1 _ _ rfl rfl).int_inv Try.underlying3
    refine ⟨L, x, k, hw, ?_⟩
    rcases hw with ⟨_, rfl⟩ | rfl <;> rfl
end Go.Proofs.Ytlknncjnfgnlaaa
