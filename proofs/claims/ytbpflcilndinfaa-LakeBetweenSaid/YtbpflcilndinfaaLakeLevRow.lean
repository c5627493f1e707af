/-
  LAKE: LakeBetween.
-/
import Derived.Test.YtbpflcilndinfaaLakeRows
import Derived.Test.YtbpflcilndinfaaTab1
namespace Go.Proofs.Ytbpflcilndinfaa
open Go.ChangeShapes Go.WideShapes Go.ChangeAt Go.RowKit Go.Proofs.Ytbpflcilndinfaa.Eng
set_option linter.unusedSimpArgs false
set_option linter.unusedVariables false

set_option maxRecDepth 100000 in
theorem between_law {w : World} (xs : List AVal) (args' : Array Value) (hx : HasAll Try.prog Try.f4.params.toList xs) (hr : ARel (ghostOf w) xs args') :
    Calls Try.prog 4 args' w fun e w' => e = .returned (.bool true) ∧ Below w.heap.size w w' := by
  rw [Try.params4] at hx
  have hlen := hx.len
  match xs, hlen with
  | [v, a, b], _ =>
    obtain ⟨l, u, hu, rfl⟩ := tab_val (hx.val 0 24 v rfl rfl)
    obtain ⟨n, rfl, _⟩ := (hx.val 1 3 a rfl rfl).int_inv Try.underlying3
    obtain ⟨m, rfl, _⟩ := (hx.val 2 3 b rfl rfl).int_inv Try.underlying3
    have hf : freeL (stripL [.agg [u], .int .i64 n, .int .i64 m]) = true := by simp [stripL, AVal.strip, freeL, AVal.free, hu.strip, hu.free]
    exact pure_calls (pure_of_run drawn hf (t4 lawA_code awake_run hu n m _)) hr

set_option maxRecDepth 100000 in
theorem between_lifted (os : Os) (started : os.Started) (H : Type) (enc : TypeId × Value → H) :
    ReturnsInHanded {} Try.checked os 4 .any (Rows.lakeBetweenSpec.pre6 enc Try.prog Try.f4 Rows.lakeBetweenRow.domain false) (Rows.lakeBetweenSpec.post enc Try.prog Try.f4 false true false false) := by
  refine returnsInHanded_of_change (C := Try.checked) own started (by kernel_rfl) Try.func4
    (ChangeSpec.witness6 (enc := enc) (C := Try.checked) false ⟨#[], #[.agg #[.slice none 0 0], .int .i64 0, .int .i64 0], []⟩ 8 (by kernel_rfl) (by kernel_rfl) (by kernel_rfl) (by kernel_rfl)) ?_
  intro W base args ds gs before hval hW _ _
  exact law_contract (tb := 4) (by kernel_rfl) (by kernel_rfl) (by kernel_rfl) Try.underlying4 laid rowed sliced rfl
    (fun ds h => by
      rw [Try.params4] at h
      match ds, h with
      | [d1, d2, d3], _ => exact ⟨rfl, rfl, rfl⟩)
    (fun xs args' => between_law xs args') base args ds gs before hval hW

theorem between_holds : Rows.LakeBetweenSaid :=
  OpenClaim.holds_of_wide 4 Try.f4 rfl rfl rfl rfl rfl rfl rfl ⟨rfl, rfl, rfl, rfl, rfl⟩ rfl rfl rfl rfl rfl (by kernel_rfl) Try.func4 (by kernel_rfl)
    (of_decide_eq_true (by kernel_rfl)) (by unfold Func.isWrapper; first | (rw [if_pos (by decide +kernel)]; kernel_rfl) | (rw [if_neg (by decide +kernel)]; exact ⟨rfl, rfl⟩))
    (fun os started H enc _ => between_lifted os started H enc)
end Go.Proofs.Ytbpflcilndinfaa
