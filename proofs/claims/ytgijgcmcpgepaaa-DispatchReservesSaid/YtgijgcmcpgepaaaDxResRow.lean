/-
  DispatchReserves: it returns true for all arguments.
-/
import Derived.Test.YtgijgcmcpgepaaaDxQVals3
import Derived.Test.YtgijgcmcpgepaaaDxRun2
import Derived.Test.YtgijgcmcpgepaaaDxDFacts
namespace Go.Proofs.Ytgijgcmcpgepaaa
open Go.ChangeShapes Go.WideShapes Go.ChangeAt Go.RowKit Go.Proofs.Ytgijgcmcpgepaaa.Eng
set_option linter.unusedSimpArgs false
set_option linter.unusedVariables false

set_option maxRecDepth 100000 in
theorem dispatchReserves_law {w : World} (xs : List AVal) (args' : Array Value) (hx : HasAll Try.prog Try.f5.params.toList xs) (hr : ARel (ghostOf w) xs args') :
    Calls Try.prog 5 args' w fun e w' => e = .returned (.bool true) ∧ Below w.heap.size w w' := by
  rw [Try.params5] at hx
  have hlen := hx.len
  match xs, hlen with
  | [x0, x1, x2], _ =>
    obtain ⟨lo, hi, R, v, rfl, hv⟩ := plant_val (hx.val 0 24 x0 rfl rfl)
    obtain ⟨t, H, w, rfl, hw⟩ := task_val (hx.val 1 27 x1 rfl rfl)
    obtain ⟨P, p, m, rfl, hp⟩ := reserve_val (hx.val 2 60 x2 rfl rfl)
    have f3 := plV_fr (lo := lo) (hi := hi) (hv.free Md.fr)
    have f4 := tkV_fr (t := t) (hw.free Hour.fr)
    have f5 := rvV_fr (m := m) hp.free
    have hf : freeL (stripL [plV lo hi v, tkV t w, rvV p m]) = true := by simp [stripL, freeL, f3, f4, f5]
    exact pure_calls (pure_of_known drawn known hf (w5 dxD_code awake_run lo hi t m hv hw hp _)) hr

set_option maxRecDepth 100000 in
theorem dispatchReserves_lifted (os : Os) (started : os.Started) (H : Type) (enc : TypeId × Value → H) :
    ReturnsInHanded {} Try.checked os 5 .any (Rows.dispatchReservesSpec.pre6 enc Try.prog Try.f5 Rows.dispatchReservesRow.domain false) (Rows.dispatchReservesSpec.post enc Try.prog Try.f5 false true false false) := by
  refine returnsInHanded_of_change (C := Try.checked) own started (by kernel_rfl) Try.func5
    (ChangeSpec.witness6 (enc := enc) (C := Try.checked) false ⟨#[], #[.agg #[.int .i64 0, .int .i64 0, .slice none 0 0], .agg #[.int .i64 0, .int .i64 0, .int .i64 0, .slice none 0 0], .agg #[.slice none 0 0, .int .i64 0]], []⟩ 8 (by kernel_rfl) (by kernel_rfl) (by kernel_rfl) (by kernel_rfl)) ?_
  intro W base args ds gs before hval hW _ _
  exact law_contract (tb := 4) (by kernel_rfl) (by kernel_rfl) (by kernel_rfl) Try.underlying4 laid rowed sliced rfl
    (fun ds h => by
      rw [Try.params5] at h
      match ds, h with
      | [d0, d1, d2], _ => exact ⟨rfl, rfl, rfl⟩)
    (fun xs args' => dispatchReserves_law xs args') base args ds gs before hval hW

end Go.Proofs.Ytgijgcmcpgepaaa
