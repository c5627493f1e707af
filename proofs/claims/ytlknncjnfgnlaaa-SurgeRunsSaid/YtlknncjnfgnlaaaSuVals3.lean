/-
  Values of boxes and lists.
-/
import Derived.Test.YtlknncjnfgnlaaaSuVals2
import Derived.Test.YtlknncjnfgnlaaaSuRun1
namespace Go.Proofs.Ytlknncjnfgnlaaa
open Go.ChangeShapes Go.WideShapes Go.ChangeAt Go.RowKit Go.Proofs.Ytlknncjnfgnlaaa.Eng
set_option linter.unusedSimpArgs false
set_option linter.unusedVariables false
theorem box_val {v : AVal} (h : HasV Try.prog 43 v) : ∃ b : Bx, v = b.enc := by
  obtain ⟨vs, rfl, hl, hv⟩ := h.struct_inv Try.underlying43
  match vs, hl with
  | [x, y], _ =>
    obtain ⟨a, b, rfl⟩ := range_val (hv 0 _ _ rfl rfl)
    obtain ⟨c, d, rfl⟩ := range_val (hv 1 _ _ rfl rfl)
    exact ⟨⟨a, b, c, d⟩, rfl⟩
theorem within_val {v : AVal} (h : HasV Try.prog 69 v) : ∃ (b : Bx) (s : Int × Int), v = .agg [.int .i64 b.a, .int .i64 b.b, .int .i64 b.c, .int .i64 b.d, .int .i64 s.1, .int .i64 s.2] := by
  obtain ⟨vs, rfl, hl, hv⟩ := h.struct_inv Try.underlying69
  match vs, hl with
  | [x, y], _ =>
    obtain ⟨b, rfl⟩ := box_val (hv 0 _ _ rfl rfl)
    obtain ⟨s, rfl⟩ := state_val (hv 1 _ _ rfl rfl)
    exact ⟨b, s, rfl⟩
theorem cells29 : Try.prog.cellsOf 29 = 2 := by kernel_rfl
theorem steps_list : ∀ {xs : List AVal}, (∀ y ∈ xs, HasV Try.prog 29 y) → ∃ L, xs = sts L
  | [], _ => ⟨[], rfl⟩
  | x :: xs, h => by
    obtain ⟨u, k, rfl⟩ := step_val (h x (by simp))
    obtain ⟨L, rfl⟩ := steps_list (xs := xs) fun y hy => h y (by simp [hy])
    exact ⟨(u, k) :: L, rfl⟩
theorem steps_val {v : AVal} (h : HasV Try.prog 70 v) : ∃ L, SL L v := by
  rcases h.slice_inv Try.underlying70 with rfl | ⟨xs, rfl, _, hx⟩
  · exact ⟨[], .inl ⟨rfl, rfl⟩⟩
  · obtain ⟨L, rfl⟩ := steps_list hx
    exact ⟨L, .inr (by rw [cells29])⟩
end Go.Proofs.Ytlknncjnfgnlaaa
