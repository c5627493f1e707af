/-
  LAKE: LakeUsable.
-/
import Derived.Test.YtbpflcilndinfaaLakePairRows
import Derived.Test.YtbpflcilndinfaaPair1
namespace Go.Proofs.Ytbpflcilndinfaa
open Go.ChangeShapes Go.WideShapes Go.ChangeAt Go.RowKit Go.Proofs.Ytbpflcilndinfaa.Eng
set_option linter.unusedSimpArgs false
set_option linter.unusedVariables false

set_option maxRecDepth 100000 in
theorem usable_law {w : World} (xs : List AVal) (args' : Array Value) (hx : HasAll Try.prog Try.f7.params.toList xs) (hr : ARel (ghostOf w) xs args') :
    Calls Try.prog 7 args' w fun e w' => e = .returned (.bool true) ∧ Below w.heap.size w w' := by
  rw [Try.params7] at hx
  have hlen := hx.len
  match xs, hlen with
  | [p, s, x], _ =>
    obtain ⟨a, b, u, v, r, ha, hb, rfl⟩ := pair_val (hx.val 0 53 p rfl rfl)
    obtain ⟨s1, s2, rfl⟩ := state_val (hx.val 1 55 s rfl rfl)
    obtain ⟨e, rfl, _⟩ := (hx.val 2 3 x rfl rfl).int_inv Try.underlying3
    have hf : freeL (stripL [.agg [u, v, .int .i64 r], .agg [.int .i64 s1, .int .i64 s2], .int .i64 e]) = true := by simp [stripL, AVal.strip, freeL, AVal.free, ha.strip, ha.free, hb.strip, hb.free]
    exact pure_calls (pure_of_run drawn hf (t7 lawB_code awake_run ha hb r s1 s2 e _)) hr

set_option maxRecDepth 100000 in
theorem usable_lifted (os : Os) (started : os.Started) (H : Type) (enc : TypeId × Value → H) :
    ReturnsInHanded {} Try.checked os 7 .any (Rows.lakeUsableSpec.pre6 enc Try.prog Try.f7 Rows.lakeUsableRow.domain false) (Rows.lakeUsableSpec.post enc Try.prog Try.f7 false true false false) := by
  refine returnsInHanded_of_change (C := Try.checked) own started (by kernel_rfl) Try.func7
    (ChangeSpec.witness6 (enc := enc) (C := Try.checked) false ⟨#[], #[.agg #[.slice none 0 0, .slice none 0 0, .int .i64 0], .agg #[.int .i64 0, .int .i64 0], .int .i64 0], []⟩ 8 (by kernel_rfl) (by kernel_rfl) (by kernel_rfl) (by kernel_rfl)) ?_
  intro W base args ds gs before hval hW _ _
  exact law_contract (tb := 4) (by kernel_rfl) (by kernel_rfl) (by kernel_rfl) Try.underlying4 laid rowed sliced rfl
    (fun ds h => by
      rw [Try.params7] at h
      match ds, h with
      | [d1, d2, d3], _ => exact ⟨rfl, rfl, rfl⟩)
    (fun xs args' => usable_law xs args') base args ds gs before hval hW

theorem usable_holds : Rows.LakeUsableSaid :=
  OpenClaim.holds_of_wide 7 Try.f7 rfl rfl rfl rfl rfl rfl rfl ⟨rfl, rfl, rfl, rfl, rfl⟩ rfl rfl rfl rfl rfl (by kernel_rfl) Try.func7 (by kernel_rfl)
    (of_decide_eq_true (by kernel_rfl)) (by unfold Func.isWrapper; first | (rw [if_pos (by decide +kernel)]; kernel_rfl) | (rw [if_neg (by decide +kernel)]; exact ⟨rfl, rfl⟩))
    (fun os started H enc _ => usable_lifted os started H enc)
end Go.Proofs.Ytbpflcilndinfaa
