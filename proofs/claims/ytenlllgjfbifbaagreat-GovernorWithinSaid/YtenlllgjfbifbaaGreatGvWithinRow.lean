/-
  GovernorWithin: it returns true for all arguments.
-/
import Derived.Test.YtenlllgjfbifbaaGreatGvVals2
import Derived.Test.YtenlllgjfbifbaaGreatGvRun1
import Derived.Test.YtenlllgjfbifbaaGreatGvAFacts
namespace Go.Proofs.YtenlllgjfbifbaaGreat
open Go.ChangeShapes Go.WideShapes Go.ChangeAt Go.RowKit Go.Proofs.YtenlllgjfbifbaaGreat.Eng
set_option linter.unusedSimpArgs false
set_option linter.unusedVariables false

set_option maxRecDepth 100000 in
theorem governorWithin_law {w : World} (xs : List AVal) (args' : Array Value) (hx : HasAll Tryz.prog Tryz.f5.params.toList xs) (hr : ARel (ghostOf w) xs args') :
    Calls Tryz.prog 5 args' w fun e w' => e = .returned (.bool true) ∧ Below w.heap.size w w' := by
  rw [Tryz.params5] at hx
  have hlen := hx.len
  match xs, hlen with
  | [x0, x1, x2], _ =>
    obtain ⟨g, rfl⟩ := gate_val (hx.val 0 23 x0 rfl rfl)
    obtain ⟨r, rfl⟩ := grules_val (hx.val 1 25 x1 rfl rfl)
    obtain ⟨L, hw⟩ := ints_val (hx.val 2 42 x2 rfl rfl)
    have hf : freeL (stripL [g.enc, r.enc, x2]) = true := by simp [stripL, freeL, hw.strip, hw.free, Gt.enc, Rl.enc, AVal.strip, AVal.free]
    exact pure_calls (pure_of_run drawn hf (u5 gvA_code awake_run g r hw _)) hr

set_option maxRecDepth 100000 in
theorem governorWithin_lifted (os : Os) (started : os.Started) (H : Type) (enc : TypeId × Value → H) :
    ReturnsInHanded {} Tryz.checked os 5 .any (Rows.governorWithinSpec.pre6 enc Tryz.prog Tryz.f5 Rows.governorWithinRow.domain false) (Rows.governorWithinSpec.post enc Tryz.prog Tryz.f5 false true false false) := by
  refine returnsInHanded_of_change (C := Tryz.checked) own started (by kernel_rfl) Tryz.func5
    (ChangeSpec.witness6 (enc := enc) (C := Tryz.checked) false ⟨#[], #[.agg #[.int .i64 0, .int .i64 0, .int .i64 0, .int .i64 0], .agg #[.int .i64 0, .int .i64 0, .int .i64 0, .int .i64 0], .slice none 0 0], []⟩ 8 (by kernel_rfl) (by kernel_rfl) (by kernel_rfl) (by kernel_rfl)) ?_
  intro W base args ds gs before hval hW _ _
  exact law_contract (tb := 4) (by kernel_rfl) (by kernel_rfl) (by kernel_rfl) Tryz.underlying4 laid rowed sliced rfl
    (fun ds h => by
      rw [Tryz.params5] at h
      match ds, h with
      | [d0, d1, d2], _ => exact ⟨rfl, rfl, rfl⟩)
    (fun xs args' => governorWithin_law xs args') base args ds gs before hval hW

end Go.Proofs.YtenlllgjfbifbaaGreat
