/-
  SurgeRuns: it returns true for all arguments.
-/
import Derived.Test.YtlknncjnfgnlaaaSuVals4
import Derived.Test.YtlknncjnfgnlaaaSuRun2
import Derived.Test.YtlknncjnfgnlaaaSuCFacts
namespace Go.Proofs.Ytlknncjnfgnlaaa
open Go.ChangeShapes Go.WideShapes Go.ChangeAt Go.RowKit Go.Proofs.Ytlknncjnfgnlaaa.Eng
set_option linter.unusedSimpArgs false
set_option linter.unusedVariables false

set_option maxRecDepth 100000 in
theorem surgeRuns_law {w : World} (xs : List AVal) (args' : Array Value) (hx : HasAll Try.prog Try.f4.params.toList xs) (hr : ARel (ghostOf w) xs args') :
    Calls Try.prog 4 args' w fun e w' => e = .returned (.bool true) ∧ Below w.heap.size w w' := by
  rw [Try.params4] at hx
  have hlen := hx.len
  match xs, hlen with
  | [x0, x1, x2], _ =>
    obtain ⟨r, rfl⟩ := rules_val (hx.val 0 25 x0 rfl rfl)
    obtain ⟨b, rfl⟩ := box_val (hx.val 1 43 x1 rfl rfl)
    obtain ⟨L, w, k, hw, rfl⟩ := run_val (hx.val 2 46 x2 rfl rfl)
    have hf : freeL (stripL [r.enc, b.enc, .agg [w, .int .i64 k]]) = true := by simp [stripL, AVal.strip, freeL, AVal.free, Ru.enc, Bx.enc, hw.strip, hw.free]
    exact pure_calls (pure_of_run drawn hf (u4 suC_code awake_run r b k hw _)) hr

set_option maxRecDepth 100000 in
theorem surgeRuns_lifted (os : Os) (started : os.Started) (H : Type) (enc : TypeId × Value → H) :
    ReturnsInHanded {} Try.checked os 4 .any (Rows.surgeRunsSpec.pre6 enc Try.prog Try.f4 Rows.surgeRunsRow.domain false) (Rows.surgeRunsSpec.post enc Try.prog Try.f4 false true false false) := by
  refine returnsInHanded_of_change (C := Try.checked) own started (by kernel_rfl) Try.func4
    (ChangeSpec.witness6 (enc := enc) (C := Try.checked) false ⟨#[], #[.agg #[.int .i64 0, .int .i64 0, .int .i64 0, .int .i64 0, .int .i64 0], .agg #[.int .i64 0, .int .i64 0, .int .i64 0, .int .i64 0], .agg #[.slice none 0 0, .int .i64 0]], []⟩ 8 (by kernel_rfl) (by kernel_rfl) (by kernel_rfl) (by kernel_rfl)) ?_
  intro W base args ds gs before hval hW _ _
  exact law_contract (tb := 4) (by kernel_rfl) (by kernel_rfl) (by kernel_rfl) Try.underlying4 laid rowed sliced rfl
    (fun ds h => by
      rw [Try.params4] at h
      match ds, h with
      | [d0, d1, d2], _ => exact ⟨rfl, rfl, rfl⟩)
    (fun xs args' => surgeRuns_law xs args') base args ds gs before hval hW

theorem surgeRuns_holds : Rows.SurgeRunsSaid :=
  OpenClaim.holds_of_wide 4 Try.f4 rfl rfl rfl rfl rfl rfl rfl ⟨rfl, rfl, rfl, rfl, rfl⟩ rfl rfl rfl rfl rfl (by kernel_rfl) Try.func4 (by kernel_rfl)
    (of_decide_eq_true (by kernel_rfl)) (by unfold Func.isWrapper; first | (rw [if_pos (by decide +kernel)]; kernel_rfl) | (rw [if_neg (by decide +kernel)]; exact ⟨rfl, rfl⟩))
    (fun os started H enc _ => surgeRuns_lifted os started H enc)
end Go.Proofs.Ytlknncjnfgnlaaa
