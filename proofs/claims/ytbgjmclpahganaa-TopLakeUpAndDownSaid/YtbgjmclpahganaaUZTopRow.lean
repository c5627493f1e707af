/-
  TopLakeUpAndDown: it returns true for all arguments.
-/
import Derived.Test.YtbgjmclpahganaaUZVals3
import Derived.Test.YtbgjmclpahganaaUFactsTop
import Derived.Test.YtbgjmclpahganaaTop1
namespace Go.Proofs.Ytbgjmclpahganaa
open Go.ChangeShapes Go.WideShapes Go.ChangeAt Go.RowKit Go.Proofs.Ytbgjmclpahganaa.Eng
set_option linter.unusedSimpArgs false
set_option linter.unusedVariables false

set_option maxRecDepth 100000 in
theorem topLakeUpAndDown_law {w : World} (xs : List AVal) (args' : Array Value) (hx : HasAll Try.prog Try.f3.params.toList xs) (hr : ARel (ghostOf w) xs args') :
    Calls Try.prog 3 args' w fun e w' => e = .returned (.bool true) ∧ Below w.heap.size w w' := by
  rw [Try.params3] at hx
  have hlen := hx.len
  match xs, hlen with
  | [x0, x1, x2], _ =>
    obtain ⟨a, b, u, v, r, ha, hb, rfl⟩ := pair_val (hx.val 0 26 x0 rfl rfl)
    obtain ⟨s1, s2, rfl⟩ := state_val (hx.val 1 28 x1 rfl rfl)
    obtain ⟨L, M, l, z, hl, rfl⟩ := task_val (hx.val 2 37 x2 rfl rfl)
    have hf : freeL (stripL [.agg [u, v, .int .i64 r], .agg [.int .i64 s1, .int .i64 s2], .agg (L.cells ++ M.cells ++ [z])]) = true := by simp [stripL, AVal.strip, freeL, AVal.free, ha.strip, ha.free, hb.strip, hb.free, hl.strip, hl.free, Lim.cells]
    exact pure_calls (pure_of_run drawn hf (z3 uVTop_code awake_run ha hb r (s1, s2) L M hl _)) hr

set_option maxRecDepth 100000 in
theorem topLakeUpAndDown_lifted (os : Os) (started : os.Started) (H : Type) (enc : TypeId × Value → H) :
    ReturnsInHanded {} Try.checked os 3 .any (Rows.topLakeUpAndDownSpec.pre6 enc Try.prog Try.f3 Rows.topLakeUpAndDownRow.domain false) (Rows.topLakeUpAndDownSpec.post enc Try.prog Try.f3 false true false false) := by
  refine returnsInHanded_of_change (C := Try.checked) own started (by kernel_rfl) Try.func3
    (ChangeSpec.witness6 (enc := enc) (C := Try.checked) false ⟨#[], #[.agg #[.slice none 0 0, .slice none 0 0, .int .i64 0], .agg #[.int .i64 0, .int .i64 0], .agg #[.int .i64 0, .int .i64 0, .int .i64 0, .int .i64 0, .int .i64 0, .int .i64 0, .int .i64 0, .int .i64 0, .int .i64 0, .int .i64 0, .slice none 0 0]], []⟩ 8 (by kernel_rfl) (by kernel_rfl) (by kernel_rfl) (by kernel_rfl)) ?_
  intro W base args ds gs before hval hW _ _
  exact law_contract (tb := 4) (by kernel_rfl) (by kernel_rfl) (by kernel_rfl) Try.underlying4 laid rowed sliced rfl
    (fun ds h => by
      rw [Try.params3] at h
      match ds, h with
      | [d0, d1, d2], _ => exact ⟨rfl, rfl, rfl⟩)
    (fun xs args' => topLakeUpAndDown_law xs args') base args ds gs before hval hW

theorem topLakeUpAndDown_holds : Rows.TopLakeUpAndDownSaid :=
  OpenClaim.holds_of_wide 3 Try.f3 rfl rfl rfl rfl rfl rfl rfl ⟨rfl, rfl, rfl, rfl, rfl⟩ rfl rfl rfl rfl rfl (by kernel_rfl) Try.func3 (by kernel_rfl)
    (of_decide_eq_true (by kernel_rfl)) (by unfold Func.isWrapper; first | (rw [if_pos (by decide +kernel)]; kernel_rfl) | (rw [if_neg (by decide +kernel)]; exact ⟨rfl, rfl⟩))
    (fun os started H enc _ => topLakeUpAndDown_lifted os started H enc)
end Go.Proofs.Ytbgjmclpahganaa
