/-
  SurgeNeverCross: it returns true for all arguments.
-/
import Derived.Test.YtlknncjnfgnlaaaSuVals2
import Derived.Test.YtlknncjnfgnlaaaSuLaw1
import Derived.Test.YtlknncjnfgnlaaaSuAFacts
namespace Go.Proofs.Ytlknncjnfgnlaaa
open Go.ChangeShapes Go.WideShapes Go.ChangeAt Go.RowKit Go.Proofs.Ytlknncjnfgnlaaa.Eng
set_option linter.unusedSimpArgs false
set_option linter.unusedVariables false

set_option maxRecDepth 100000 in
theorem surgeNeverCross_law {w : World} (xs : List AVal) (args' : Array Value) (hx : HasAll Try.prog Try.f5.params.toList xs) (hr : ARel (ghostOf w) xs args') :
    Calls Try.prog 5 args' w fun e w' => e = .returned (.bool true) ∧ Below w.heap.size w w' := by
  rw [Try.params5] at hx
  have hlen := hx.len
  match xs, hlen with
  | [x0, x1, x2], _ =>
    obtain ⟨r, rfl⟩ := rules_val (hx.val 0 25 x0 rfl rfl)
    obtain ⟨s, t, rfl⟩ := two_val (hx.val 1 66 x1 rfl rfl)
    obtain ⟨u, k, rfl⟩ := step_val (hx.val 2 29 x2 rfl rfl)
    exact pure_calls (pure_of_run drawn rfl (u5 suA_code awake_run r s t u k _)) hr

set_option maxRecDepth 100000 in
theorem surgeNeverCross_lifted (os : Os) (started : os.Started) (H : Type) (enc : TypeId × Value → H) :
    ReturnsInHanded {} Try.checked os 5 .any (Rows.surgeNeverCrossSpec.pre6 enc Try.prog Try.f5 Rows.surgeNeverCrossRow.domain false) (Rows.surgeNeverCrossSpec.post enc Try.prog Try.f5 false true false false) := by
  refine returnsInHanded_of_change (C := Try.checked) own started (by kernel_rfl) Try.func5
    (ChangeSpec.witness6 (enc := enc) (C := Try.checked) false ⟨#[], #[.agg #[.int .i64 0, .int .i64 0, .int .i64 0, .int .i64 0, .int .i64 0], .agg #[.int .i64 0, .int .i64 0, .int .i64 0, .int .i64 0], .agg #[.int .i64 0, .int .i64 0]], []⟩ 8 (by kernel_rfl) (by kernel_rfl) (by kernel_rfl) (by kernel_rfl)) ?_
  intro W base args ds gs before hval hW _ _
  exact law_contract (tb := 4) (by kernel_rfl) (by kernel_rfl) (by kernel_rfl) Try.underlying4 laid rowed sliced rfl
    (fun ds h => by
      rw [Try.params5] at h
      match ds, h with
      | [d0, d1, d2], _ => exact ⟨rfl, rfl, rfl⟩)
    (fun xs args' => surgeNeverCross_law xs args') base args ds gs before hval hW

theorem surgeNeverCross_holds : Rows.SurgeNeverCrossSaid :=
  OpenClaim.holds_of_wide 5 Try.f5 rfl rfl rfl rfl rfl rfl rfl ⟨rfl, rfl, rfl, rfl, rfl⟩ rfl rfl rfl rfl rfl (by kernel_rfl) Try.func5 (by kernel_rfl)
    (of_decide_eq_true (by kernel_rfl)) (by unfold Func.isWrapper; first | (rw [if_pos (by decide +kernel)]; kernel_rfl) | (rw [if_neg (by decide +kernel)]; exact ⟨rfl, rfl⟩))
    (fun os started H enc _ => surgeNeverCross_lifted os started H enc)
end Go.Proofs.Ytlknncjnfgnlaaa
