/-
  SequenceLocked: it returns true for all arguments.
-/
import Derived.Test.YtjbegiaceekgcabTab1
namespace Go.Proofs.Ytjbegiaceekgcab
open Go.ChangeShapes Go.WideShapes Go.ChangeAt Go.RowKit Go.Proofs.Ytjbegiaceekgcab.Eng
set_option linter.unusedSimpArgs false
set_option linter.unusedVariables false

set_option maxRecDepth 100000 in
theorem sequenceLocked_law {w : World} (xs : List AVal) (args' : Array Value) (hx : HasAll Try.prog Try.f3.params.toList xs) (hr : ARel (ghostOf w) xs args') :
    Calls Try.prog 3 args' w fun e w' => e = .returned (.bool true) ∧ Below w.heap.size w w' := by
  rw [Try.params3] at hx
  have hlen := hx.len
  match xs, hlen with
  | [x0, x1, x2], _ =>
    obtain ⟨M, R, v, rfl, hv⟩ := hall_val (hx.val 0 24 x0 rfl rfl)
    obtain ⟨L, hs⟩ := ints_val (hx.val 1 25 x1 rfl rfl)
    obtain ⟨l, hw⟩ := entries_val (hx.val 2 26 x2 rfl rfl)
    have hf : freeL (stripL [.agg [.int .i64 M, v], x1, x2]) = true := by simp [stripL, AVal.strip, freeL, AVal.free, hv.free.1, hv.free.2, hs.free.1, hs.free.2, hw.free.1, hw.free.2]
    exact pure_calls (pure_of_known drawn known hf (u3 srL_code awake_run ent_given hv hs hw _)) hr

set_option maxRecDepth 100000 in
theorem sequenceLocked_lifted (os : Os) (started : os.Started) (H : Type) (enc : TypeId × Value → H) :
    ReturnsInHanded {} Try.checked os 3 .any (Rows.sequenceLockedSpec.pre6 enc Try.prog Try.f3 Rows.sequenceLockedRow.domain false) (Rows.sequenceLockedSpec.post enc Try.prog Try.f3 false true false false) := by
  refine returnsInHanded_of_change (C := Try.checked) own started (by kernel_rfl) Try.func3
    (ChangeSpec.witness6 (enc := enc) (C := Try.checked) false ⟨#[], #[.agg #[.int .i64 0, .slice none 0 0], .slice none 0 0, .slice none 0 0], []⟩ 8 (by kernel_rfl) (by kernel_rfl) (by kernel_rfl) (by kernel_rfl)) ?_
  intro W base args ds gs before hval hW _ _
  exact law_contract (tb := 4) (by kernel_rfl) (by kernel_rfl) (by kernel_rfl) Try.underlying4 laid rowed sliced rfl
    (fun ds h => by
      rw [Try.params3] at h
      match ds, h with
      | [d0, d1, d2], _ => exact ⟨rfl, rfl, rfl⟩)
    (fun xs args' => sequenceLocked_law xs args') base args ds gs before hval hW

end Go.Proofs.Ytjbegiaceekgcab
