/-
  DispatchSums: it returns true for all arguments.
-/
import Derived.Test.YtgijgcmcpgepaaaDxQVals
import Derived.Test.YtgijgcmcpgepaaaDxRun1
import Derived.Test.YtgijgcmcpgepaaaDxAFacts
namespace Go.Proofs.Ytgijgcmcpgepaaa
open Go.ChangeShapes Go.WideShapes Go.ChangeAt Go.RowKit Go.Proofs.Ytgijgcmcpgepaaa.Eng
set_option linter.unusedSimpArgs false
set_option linter.unusedVariables false

set_option maxRecDepth 100000 in
theorem dispatchSums_law {w : World} (xs : List AVal) (args' : Array Value) (hx : HasAll Try.prog Try.f9.params.toList xs) (hr : ARel (ghostOf w) xs args') :
    Calls Try.prog 9 args' w fun e w' => e = .returned (.bool true) ∧ Below w.heap.size w w' := by
  rw [Try.params9] at hx
  have hlen := hx.len
  match xs, hlen with
  | [x0, x1, x2], _ =>
    obtain ⟨s, r, rfl⟩ := ramp_val (hx.val 0 74 x0 rfl rfl)
    obtain ⟨L, hv⟩ := ints_val (hx.val 1 28 x1 rfl rfl)
    obtain ⟨M, hw⟩ := ints_val (hx.val 2 28 x2 rfl rfl)
    have hf : freeL (stripL [.agg [.int .i64 s, .int .i64 r], x1, x2]) = true := by simp [stripL, AVal.strip, freeL, AVal.free, hv.free.1, hv.free.2, hw.free.1, hw.free.2]
    exact pure_calls (pure_of_known drawn known hf (w9 dxA_code awake_run s r hv hw _)) hr

set_option maxRecDepth 100000 in
theorem dispatchSums_lifted (os : Os) (started : os.Started) (H : Type) (enc : TypeId × Value → H) :
    ReturnsInHanded {} Try.checked os 9 .any (Rows.dispatchSumsSpec.pre6 enc Try.prog Try.f9 Rows.dispatchSumsRow.domain false) (Rows.dispatchSumsSpec.post enc Try.prog Try.f9 false true false false) := by
  refine returnsInHanded_of_change (C := Try.checked) own started (by kernel_rfl) Try.func9
    (ChangeSpec.witness6 (enc := enc) (C := Try.checked) false ⟨#[], #[.agg #[.int .i64 0, .int .i64 0], .slice none 0 0, .slice none 0 0], []⟩ 8 (by kernel_rfl) (by kernel_rfl) (by kernel_rfl) (by kernel_rfl)) ?_
  intro W base args ds gs before hval hW _ _
  exact law_contract (tb := 4) (by kernel_rfl) (by kernel_rfl) (by kernel_rfl) Try.underlying4 laid rowed sliced rfl
    (fun ds h => by
      rw [Try.params9] at h
      match ds, h with
      | [d0, d1, d2], _ => exact ⟨rfl, rfl, rfl⟩)
    (fun xs args' => dispatchSums_law xs args') base args ds gs before hval hW

end Go.Proofs.Ytgijgcmcpgepaaa
