/-
  LakeReadings: it returns true for all arguments.
-/
import Derived.Test.YtbgjmclpahganaaGreatVZVals2
import Derived.Test.YtbgjmclpahganaaGreatVFactsRds
import Derived.Test.YtbgjmclpahganaaGreatRds1
namespace Go.Proofs.YtbgjmclpahganaaGreat
open Go.ChangeShapes Go.WideShapes Go.ChangeAt Go.RowKit Go.Proofs.YtbgjmclpahganaaGreat.Eng
set_option linter.unusedSimpArgs false
set_option linter.unusedVariables false

set_option maxRecDepth 100000 in
theorem lakeReadings_law {w : World} (xs : List AVal) (args' : Array Value) (hx : HasAll Tryz.prog Tryz.f7.params.toList xs) (hr : ARel (ghostOf w) xs args') :
    Calls Tryz.prog 7 args' w fun e w' => e = .returned (.bool true) ∧ Below w.heap.size w w' := by
  rw [Tryz.params7] at hx
  have hlen := hx.len
  match xs, hlen with
  | [x0, x1, x2], _ =>
    obtain ⟨a, u, ha, rfl⟩ := tab_val (hx.val 0 24 x0 rfl rfl)
    obtain ⟨net, hn⟩ := ints_has (hx.val 1 74 x1 rfl rfl)
    obtain ⟨l, hl⟩ := reads_has (hx.val 2 75 x2 rfl rfl)
    have hf : freeL (stripL [.agg [u], x1, x2]) = true := by simp [stripL, AVal.strip, freeL, AVal.free, ha.strip, ha.free, hn.strip, hn.free, hl.strip, hl.free]
    exact pure_calls (pure_of_run drawn hf (z7 vRds_code awake_run ha hn hl _)) hr

set_option maxRecDepth 100000 in
theorem lakeReadings_lifted (os : Os) (started : os.Started) (H : Type) (enc : TypeId × Value → H) :
    ReturnsInHanded {} Tryz.checked os 7 .any (Rows.lakeReadingsSpec.pre6 enc Tryz.prog Tryz.f7 Rows.lakeReadingsRow.domain false) (Rows.lakeReadingsSpec.post enc Tryz.prog Tryz.f7 false true false false) := by
  refine returnsInHanded_of_change (C := Tryz.checked) own started (by kernel_rfl) Tryz.func7
    (ChangeSpec.witness6 (enc := enc) (C := Tryz.checked) false ⟨#[], #[.agg #[.slice none 0 0], .slice none 0 0, .slice none 0 0], []⟩ 8 (by kernel_rfl) (by kernel_rfl) (by kernel_rfl) (by kernel_rfl)) ?_
  intro W base args ds gs before hval hW _ _
  exact law_contract (tb := 4) (by kernel_rfl) (by kernel_rfl) (by kernel_rfl) Tryz.underlying4 laid rowed sliced rfl
    (fun ds h => by
      rw [Tryz.params7] at h
      match ds, h with
      | [d0, d1, d2], _ => exact ⟨rfl, rfl, rfl⟩)
    (fun xs args' => lakeReadings_law xs args') base args ds gs before hval hW

theorem lakeReadings_holds : Rows.LakeReadingsSaid :=
  OpenClaim.holds_of_wide 7 Tryz.f7 rfl rfl rfl rfl rfl rfl rfl ⟨rfl, rfl, rfl, rfl, rfl⟩ rfl rfl rfl rfl rfl (by kernel_rfl) Tryz.func7 (by kernel_rfl)
    (of_decide_eq_true (by kernel_rfl)) (by unfold Func.isWrapper; first | (rw [if_pos (by decide +kernel)]; kernel_rfl) | (rw [if_neg (by decide +kernel)]; exact ⟨rfl, rfl⟩))
    (fun os started H enc _ => lakeReadings_lifted os started H enc)
end Go.Proofs.YtbgjmclpahganaaGreat
