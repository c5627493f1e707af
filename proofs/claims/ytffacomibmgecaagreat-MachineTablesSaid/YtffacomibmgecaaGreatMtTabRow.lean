/-
  MachineTables: it returns true for all arguments.
-/
import Derived.Test.YtffacomibmgecaaGreatMtVals
import Derived.Test.YtffacomibmgecaaGreatMtRun1
import Derived.Test.YtffacomibmgecaaGreatMtAFacts
namespace Go.Proofs.YtffacomibmgecaaGreat
open Go.ChangeShapes Go.WideShapes Go.ChangeAt Go.RowKit Go.Proofs.YtffacomibmgecaaGreat.Eng
set_option linter.unusedSimpArgs false
set_option linter.unusedVariables false

set_option maxRecDepth 100000 in
theorem machineTables_law {w : World} (xs : List AVal) (args' : Array Value) (hx : HasAll Tryz.prog Tryz.f3.params.toList xs) (hr : ARel (ghostOf w) xs args') :
    Calls Tryz.prog 3 args' w fun e w' => e = .returned (.bool true) ∧ Below w.heap.size w w' := by
  rw [Tryz.params3] at hx
  have hlen := hx.len
  match xs, hlen with
  | [x0], _ =>
    obtain ⟨t, w, hT, rfl⟩ := table_val (hx.val 0 24 x0 rfl rfl)
    have hf : freeL (stripL [.agg [w]]) = true := by simp [stripL, AVal.strip, freeL, AVal.free, hT.strip, hT.free]
    exact pure_calls (pure_of_run drawn hf (u3 mtA_code awake_run hT _)) hr

set_option maxRecDepth 100000 in
theorem machineTables_lifted (os : Os) (started : os.Started) (H : Type) (enc : TypeId × Value → H) :
    ReturnsInHanded {} Tryz.checked os 3 .any (Rows.machineTablesSpec.pre6 enc Tryz.prog Tryz.f3 Rows.machineTablesRow.domain false) (Rows.machineTablesSpec.post enc Tryz.prog Tryz.f3 false true false false) := by
  refine returnsInHanded_of_change (C := Tryz.checked) own started (by kernel_rfl) Tryz.func3
    (ChangeSpec.witness6 (enc := enc) (C := Tryz.checked) false ⟨#[], #[.agg #[.slice none 0 0]], []⟩ 8 (by kernel_rfl) (by kernel_rfl) (by kernel_rfl) (by kernel_rfl)) ?_
  intro W base args ds gs before hval hW _ _
  exact law_contract (tb := 4) (by kernel_rfl) (by kernel_rfl) (by kernel_rfl) Tryz.underlying4 laid rowed sliced rfl
    (fun ds h => by
      rw [Tryz.params3] at h
      match ds, h with
      | [d0], _ => exact ⟨rfl, rfl, rfl⟩)
    (fun xs args' => machineTables_law xs args') base args ds gs before hval hW

end Go.Proofs.YtffacomibmgecaaGreat
