/-
  Values of lists of numbers.
-/
import Derived.Test.YtenlllgjfbifbaaGreatGvVals
import Derived.Test.YtenlllgjfbifbaaGreatGvRun1
namespace Go.Proofs.YtenlllgjfbifbaaGreat
open Go.ChangeShapes Go.WideShapes Go.ChangeAt Go.RowKit Go.Proofs.YtenlllgjfbifbaaGreat.Eng
set_option linter.unusedSimpArgs false
set_option linter.unusedVariables false
theorem cells3 : Tryz.prog.cellsOf 3 = 1 := by kernel_rfl
theorem ints_list : ∀ {xs : List AVal}, (∀ y ∈ xs, HasV Tryz.prog 3 y) → ∃ L, xs = ints L
  | [], _ => ⟨[], rfl⟩
  | x :: xs, h => by
    obtain ⟨u, rfl, _⟩ := (h x (by simp)).int_inv Tryz.underlying3
    obtain ⟨L, rfl⟩ := ints_list (xs := xs) fun y hy => h y (by simp [hy])
    exact ⟨u :: L, rfl⟩
theorem ints_val {v : AVal} (h : HasV Tryz.prog 42 v) : ∃ L, IL L v := by
  rcases h.slice_inv Tryz.underlying42 with rfl | ⟨xs, rfl, _, hx⟩
  · exact ⟨[], .inl ⟨rfl, rfl⟩⟩
  · obtain ⟨L, rfl⟩ := ints_list hx
    exact ⟨L, .inr (by rw [cells3])⟩
end Go.Proofs.YtenlllgjfbifbaaGreat
