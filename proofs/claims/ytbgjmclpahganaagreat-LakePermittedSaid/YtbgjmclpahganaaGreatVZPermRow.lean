/-
  LakePermitted: it returns true for all arguments.
-/
import Derived.Test.YtbgjmclpahganaaGreatVZVals3
import Derived.Test.YtbgjmclpahganaaGreatPerm1
import Derived.Test.YtbgjmclpahganaaGreatVFactsVio
import Derived.Test.YtbgjmclpahganaaGreatVFactsPerm
namespace Go.Proofs.YtbgjmclpahganaaGreat
open Go.ChangeShapes Go.WideShapes Go.ChangeAt Go.RowKit Go.Proofs.YtbgjmclpahganaaGreat.Eng
set_option linter.unusedSimpArgs false
set_option linter.unusedVariables false

set_option maxRecDepth 100000 in
theorem lakePermitted_law {w : World} (xs : List AVal) (args' : Array Value) (hx : HasAll Tryz.prog Tryz.f5.params.toList xs) (hr : ARel (ghostOf w) xs args') :
    Calls Tryz.prog 5 args' w fun e w' => e = .returned (.bool true) ∧ Below w.heap.size w w' := by
  rw [Tryz.params5] at hx
  have hlen := hx.len
  match xs, hlen with
  | [x0, x1, x2], _ =>
    obtain ⟨a, b, u, v, r, ha, hb, rfl⟩ := pair_val (hx.val 0 26 x0 rfl rfl)
    obtain ⟨s1, s2, rfl⟩ := state_val (hx.val 1 28 x1 rfl rfl)
    obtain ⟨L, M, l, z, hl, rfl⟩ := task_val (hx.val 2 54 x2 rfl rfl)
    have hf : freeL (stripL [.agg [u, v, .int .i64 r], .agg [.int .i64 s1, .int .i64 s2], .agg (L.cells ++ M.cells ++ [z])]) = true := by simp [stripL, AVal.strip, freeL, AVal.free, ha.strip, ha.free, hb.strip, hb.free, hl.strip, hl.free, Lim.cells]
    exact pure_calls (pure_of_run drawn hf (z5 vPerm_code vVio_code awake_run rep58 ha hb r (s1, s2) L M hl _)) hr

set_option maxRecDepth 100000 in
theorem lakePermitted_lifted (os : Os) (started : os.Started) (H : Type) (enc : TypeId × Value → H) :
    ReturnsInHanded {} Tryz.checked os 5 .any (Rows.lakePermittedSpec.pre6 enc Tryz.prog Tryz.f5 Rows.lakePermittedRow.domain false) (Rows.lakePermittedSpec.post enc Tryz.prog Tryz.f5 false true false false) := by
  refine returnsInHanded_of_change (C := Tryz.checked) own started (by kernel_rfl) Tryz.func5
    (ChangeSpec.witness6 (enc := enc) (C := Tryz.checked) false ⟨#[], #[.agg #[.slice none 0 0, .slice none 0 0, .int .i64 0], .agg #[.int .i64 0, .int .i64 0], .agg #[.int .i64 0, .int .i64 0, .int .i64 0, .int .i64 0, .int .i64 0, .int .i64 0, .int .i64 0, .int .i64 0, .int .i64 0, .int .i64 0, .slice none 0 0]], []⟩ 8 (by kernel_rfl) (by kernel_rfl) (by kernel_rfl) (by kernel_rfl)) ?_
  intro W base args ds gs before hval hW _ _
  exact law_contract (tb := 4) (by kernel_rfl) (by kernel_rfl) (by kernel_rfl) Tryz.underlying4 laid rowed sliced rfl
    (fun ds h => by
      rw [Tryz.params5] at h
      match ds, h with
      | [d0, d1, d2], _ => exact ⟨rfl, rfl, rfl⟩)
    (fun xs args' => lakePermitted_law xs args') base args ds gs before hval hW

theorem lakePermitted_holds : Rows.LakePermittedSaid :=
  OpenClaim.holds_of_wide 5 Tryz.f5 rfl rfl rfl rfl rfl rfl rfl ⟨rfl, rfl, rfl, rfl, rfl⟩ rfl rfl rfl rfl rfl (by kernel_rfl) Tryz.func5 (by kernel_rfl)
    (of_decide_eq_true (by kernel_rfl)) (by unfold Func.isWrapper; first | (rw [if_pos (by decide +kernel)]; kernel_rfl) | (rw [if_neg (by decide +kernel)]; exact ⟨rfl, rfl⟩))
    (fun os started H enc _ => lakePermitted_lifted os started H enc)
end Go.Proofs.YtbgjmclpahganaaGreat
