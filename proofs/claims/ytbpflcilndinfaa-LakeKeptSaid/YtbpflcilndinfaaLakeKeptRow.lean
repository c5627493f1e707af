/-
  LAKE: LakeKept.
-/
import Derived.Test.YtbpflcilndinfaaLakePairRows
import Derived.Test.YtbpflcilndinfaaRunFacts
import Derived.Test.YtbpflcilndinfaaKept1
namespace Go.Proofs.Ytbpflcilndinfaa
open Go.ChangeShapes Go.WideShapes Go.ChangeAt Go.RowKit Go.Proofs.Ytbpflcilndinfaa.Eng
set_option linter.unusedSimpArgs false
set_option linter.unusedVariables false

theorem cells57 : Try.prog.cellsOf 57 = 3 := by kernel_rfl
theorem flow_list : ∀ {xs : List AVal}, (∀ y ∈ xs, HasV Try.prog 57 y) → ∃ l : List Rd, xs = rds l
  | [], _ => ⟨[], rfl⟩
  | x :: xs, h => by
    obtain ⟨i1, i2, e, rfl⟩ := flows_val (h x (by simp))
    obtain ⟨l, rfl⟩ := flow_list (xs := xs) fun y hy => h y (by simp [hy])
    exact ⟨(i1, i2, e) :: l, rfl⟩
theorem flows_has {v : AVal} (h : HasV Try.prog 75 v) : ∃ l, RL l v := by
  rcases h.slice_inv Try.underlying75 with rfl | ⟨xs, rfl, _, hx⟩
  · exact ⟨[], .inl ⟨rfl, rfl⟩⟩
  · obtain ⟨l, rfl⟩ := flow_list hx
    exact ⟨l, .inr (by rw [cells57])⟩

set_option maxRecDepth 100000 in
theorem kept_law {w : World} (xs : List AVal) (args' : Array Value) (hx : HasAll Try.prog Try.f6.params.toList xs) (hr : ARel (ghostOf w) xs args') :
    Calls Try.prog 6 args' w fun e w' => e = .returned (.bool true) ∧ Below w.heap.size w w' := by
  rw [Try.params6] at hx
  have hlen := hx.len
  match xs, hlen with
  | [p, s, x], _ =>
    obtain ⟨a, b, u, v, r, ha, hb, rfl⟩ := pair_val (hx.val 0 53 p rfl rfl)
    obtain ⟨s1, s2, rfl⟩ := state_val (hx.val 1 55 s rfl rfl)
    obtain ⟨l, hl⟩ := flows_has (hx.val 2 75 x rfl rfl)
    have hf : freeL (stripL [.agg [u, v, .int .i64 r], .agg [.int .i64 s1, .int .i64 s2], x]) = true := by simp [stripL, AVal.strip, freeL, AVal.free, ha.strip, ha.free, hb.strip, hb.free, hl.strip, hl.free]
    exact pure_calls (pure_of_run drawn hf (t6 lawD_code awake_run ha hb r (s1, s2) hl _)) hr

set_option maxRecDepth 100000 in
theorem kept_lifted (os : Os) (started : os.Started) (H : Type) (enc : TypeId × Value → H) :
    ReturnsInHanded {} Try.checked os 6 .any (Rows.lakeKeptSpec.pre6 enc Try.prog Try.f6 Rows.lakeKeptRow.domain false) (Rows.lakeKeptSpec.post enc Try.prog Try.f6 false true false false) := by
  refine returnsInHanded_of_change (C := Try.checked) own started (by kernel_rfl) Try.func6
    (ChangeSpec.witness6 (enc := enc) (C := Try.checked) false ⟨#[], #[.agg #[.slice none 0 0, .slice none 0 0, .int .i64 0], .agg #[.int .i64 0, .int .i64 0], .slice none 0 0], []⟩ 8 (by kernel_rfl) (by kernel_rfl) (by kernel_rfl) (by kernel_rfl)) ?_
  intro W base args ds gs before hval hW _ _
  exact law_contract (tb := 4) (by kernel_rfl) (by kernel_rfl) (by kernel_rfl) Try.underlying4 laid rowed sliced rfl
    (fun ds h => by
      rw [Try.params6] at h
      match ds, h with
      | [d1, d2, d3], _ => exact ⟨rfl, rfl, rfl⟩)
    (fun xs args' => kept_law xs args') base args ds gs before hval hW

theorem kept_holds : Rows.LakeKeptSaid :=
  OpenClaim.holds_of_wide 6 Try.f6 rfl rfl rfl rfl rfl rfl rfl ⟨rfl, rfl, rfl, rfl, rfl⟩ rfl rfl rfl rfl rfl (by kernel_rfl) Try.func6 (by kernel_rfl)
    (of_decide_eq_true (by kernel_rfl)) (by unfold Func.isWrapper; first | (rw [if_pos (by decide +kernel)]; kernel_rfl) | (rw [if_neg (by decide +kernel)]; exact ⟨rfl, rfl⟩))
    (fun os started H enc _ => kept_lifted os started H enc)
end Go.Proofs.Ytbpflcilndinfaa
