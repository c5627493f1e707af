/-
  LAKE: what the rows share.
-/
import Derived.Test.YtbpflcilndinfaaRows
import Derived.Test.YtbpflcilndinfaaChecked
import Derived.Test.YtbpflcilndinfaaTab1
import Derived.Test.YtbpflcilndinfaaLakeFacts
import Derived.Test.YtbpflcilndinfaaLakeAwake
import Derived.ProofKit
namespace Go.Proofs.Ytbpflcilndinfaa
open Go.ChangeShapes Go.WideShapes Go.ChangeAt Go.RowKit Go.Proofs.Ytbpflcilndinfaa.Eng
set_option linter.unusedSimpArgs false
set_option linter.unusedVariables false

theorem own : ownKnob Try.prog.godebug = none := by kernel_rfl
theorem laid : laidOutB Try.prog = true := by kernel_rfl
theorem rowed : mapsRowed Try.prog = true := by kernel_rfl
theorem sliced : slicesOk Try.prog = true := by kernel_rfl
theorem drawn : Try.prog.follows .mixedOrders = true := by kernel_rfl

theorem awake_run (σ : Store) : Run (xprog Try.prog [127, 1000143]) (.call 11) [] σ = some (.ret, [.bool true], σ) := by
  have h := isTrue_eq lake_awake
  have h0 : Run (xprog Try.prog [127, 1000143]) (.call 11) [] Store.empty = some (.ret, [.bool true], Store.empty) := (Run_iff _ _ _ _ _).mpr ⟨256, h⟩
  exact pure_any (by rfl) h0 σ

theorem cells48 : Try.prog.cellsOf 48 = 2 := by kernel_rfl
theorem kn_has {x : AVal} (h : HasV Try.prog 48 x) : ∃ k : Kn, x = k.enc := by
  obtain ⟨vs, rfl, hl, hv⟩ := h.struct_inv Try.underlying48
  match vs, hl with
  | [a, b], _ =>
    obtain ⟨x, rfl, _⟩ := (hv 0 _ _ rfl rfl).int_inv Try.underlying3
    obtain ⟨y, rfl, _⟩ := (hv 1 _ _ rfl rfl).int_inv Try.underlying3
    exact ⟨(x, y), rfl⟩
theorem kn_list : ∀ {xs : List AVal}, (∀ y ∈ xs, HasV Try.prog 48 y) → ∃ l : List Kn, xs = kns l
  | [], _ => ⟨[], rfl⟩
  | x :: xs, h => by
    obtain ⟨s, rfl⟩ := kn_has (h x (by simp))
    obtain ⟨l, rfl⟩ := kn_list (xs := xs) fun y hy => h y (by simp [hy])
    exact ⟨s :: l, rfl⟩
theorem kn_val {v : AVal} (h : HasV Try.prog 22 v) : ∃ l, KL l v := by
  rcases h.slice_inv Try.underlying22 with rfl | ⟨xs, rfl, _, hx⟩
  · exact ⟨[], .inl ⟨rfl, rfl⟩⟩
  · obtain ⟨l, rfl⟩ := kn_list hx
    exact ⟨l, .inr (by rw [cells48])⟩
theorem tab_val {v : AVal} (h : HasV Try.prog 24 v) : ∃ l u, KL l u ∧ v = .agg [u] := by
  obtain ⟨vs, rfl, hl, hv⟩ := h.struct_inv Try.underlying24
  match vs, hl with
  | [a], _ =>
    obtain ⟨l, hu⟩ := kn_val (hv 0 _ _ rfl rfl)
    refine ⟨l, a, hu, ?_⟩
    rcases hu with ⟨rfl, _⟩ | rfl <;> rfl
end Go.Proofs.Ytbpflcilndinfaa
