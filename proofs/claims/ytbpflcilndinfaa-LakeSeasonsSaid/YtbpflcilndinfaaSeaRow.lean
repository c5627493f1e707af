/-
  LAKE: LakeSeasons.
-/
import Derived.Test.YtbpflcilndinfaaRows
import Derived.Test.YtbpflcilndinfaaChecked
import Derived.Test.YtbpflcilndinfaaSeaLaw
import Derived.Test.YtbpflcilndinfaaSeaFacts
import Derived.Test.YtbpflcilndinfaaSeaAwake
import Derived.ProofKit
namespace Go.Proofs.Ytbpflcilndinfaa
open Go.ChangeShapes Go.WideShapes Go.ChangeAt Go.RowKit Go.Proofs.Ytbpflcilndinfaa.Eng
set_option linter.unusedSimpArgs false
set_option linter.unusedVariables false

theorem own : ownKnob Try.prog.godebug = none := by kernel_rfl
theorem laid : laidOutB Try.prog = true := by kernel_rfl
theorem rowed : mapsRowed Try.prog = true := by kernel_rfl
theorem sliced : slicesOk Try.prog = true := by kernel_rfl
theorem drawn : Try.prog.follows .mixedOrders = true := by kernel_rfl

theorem awake_run (σ : Store) : Run (xprog Try.prog [127]) (.call 11) [] σ = some (.ret, [.bool true], σ) := by
  have h := isTrue_eq lake_awake
  have h0 : Run (xprog Try.prog [127]) (.call 11) [] Store.empty = some (.ret, [.bool true], Store.empty) := (Run_iff _ _ _ _ _).mpr ⟨256, h⟩
  exact pure_any (by rfl) h0 σ

theorem sea_has {x : AVal} (h : HasV Try.prog 171 x) : ∃ s : Sea, x = s.enc := by
  obtain ⟨vs, rfl, hl, hv⟩ := h.struct_inv Try.underlying171
  match vs, hl with
  | [a, b, c], _ =>
    obtain ⟨x, rfl, _⟩ := (hv 0 _ _ rfl rfl).int_inv Try.underlying3
    obtain ⟨y, rfl, _⟩ := (hv 1 _ _ rfl rfl).int_inv Try.underlying3
    obtain ⟨z, rfl, _⟩ := (hv 2 _ _ rfl rfl).int_inv Try.underlying3
    exact ⟨(x, y, z), rfl⟩
theorem sea_list : ∀ {xs : List AVal}, (∀ y ∈ xs, HasV Try.prog 171 y) → ∃ l : List Sea, xs = l.map Sea.enc
  | [], _ => ⟨[], rfl⟩
  | x :: xs, h => by
    obtain ⟨s, rfl⟩ := sea_has (h x (by simp))
    obtain ⟨l, rfl⟩ := sea_list (xs := xs) fun y hy => h y (by simp [hy])
    exact ⟨s :: l, rfl⟩
theorem cells171 : Try.prog.cellsOf 171 = 3 := by kernel_rfl
theorem sea_val {v : AVal} (h : HasV Try.prog 84 v) : ∃ l, SeaV l v := by
  rcases h.slice_inv Try.underlying84 with rfl | ⟨xs, rfl, _, hx⟩
  · exact ⟨[], .inl ⟨rfl, rfl⟩⟩
  · obtain ⟨l, rfl⟩ := sea_list hx
    exact ⟨l, .inr (by rw [cells171])⟩

set_option maxRecDepth 100000 in
theorem seasons_law {w : World} (xs : List AVal) (args' : Array Value) (hx : HasAll Try.prog Try.f8.params.toList xs) (hr : ARel (ghostOf w) xs args') :
    Calls Try.prog 8 args' w fun e w' => e = .returned (.bool true) ∧ Below w.heap.size w w' := by
  rw [Try.params8] at hx
  have hlen := hx.len
  match xs, hlen with
  | [v, d], _ =>
    obtain ⟨l, hv⟩ := sea_val (hx.val 0 84 v rfl rfl)
    obtain ⟨n, rfl, _⟩ := (hx.val 1 3 d rfl rfl).int_inv Try.underlying3
    have hf : freeL (stripL [v, .int .i64 n]) = true := by
      rcases hv with ⟨rfl, _⟩ | rfl
      · rfl
      · simp [stripL, AVal.strip, freeL, AVal.free, freeL_strip (sea_free l), sea_free l]
    exact pure_calls (pure_of_run drawn hf (sea8 sea_code awake_run hv n _)) hr

set_option maxRecDepth 100000 in
theorem seasons_lifted (os : Os) (started : os.Started) (H : Type) (enc : TypeId × Value → H) :
    ReturnsInHanded {} Try.checked os 8 .any (Rows.lakeSeasonsSpec.pre6 enc Try.prog Try.f8 Rows.lakeSeasonsRow.domain false) (Rows.lakeSeasonsSpec.post enc Try.prog Try.f8 false true false false) := by
  refine returnsInHanded_of_change (C := Try.checked) own started (by kernel_rfl) Try.func8
    (ChangeSpec.witness6 (enc := enc) (C := Try.checked) false ⟨#[], #[.slice none 0 0, .int .i64 0], []⟩ 8 (by kernel_rfl) (by kernel_rfl) (by kernel_rfl) (by kernel_rfl)) ?_
  intro W base args ds gs before hval hW _ _
  exact law_contract (tb := 4) (by kernel_rfl) (by kernel_rfl) (by kernel_rfl) Try.underlying4 laid rowed sliced rfl
    (fun ds h => by
      rw [Try.params8] at h
      match ds, h with
      | [d1, d2], _ => exact ⟨rfl, rfl, rfl⟩)
    (fun xs args' => seasons_law xs args') base args ds gs before hval hW

theorem seasons_holds : Rows.LakeSeasonsSaid :=
  OpenClaim.holds_of_wide 8 Try.f8 rfl rfl rfl rfl rfl rfl rfl ⟨rfl, rfl, rfl, rfl, rfl⟩ rfl rfl rfl rfl rfl (by kernel_rfl) Try.func8 (by kernel_rfl)
    (of_decide_eq_true (by kernel_rfl)) (by unfold Func.isWrapper; first | (rw [if_pos (by decide +kernel)]; kernel_rfl) | (rw [if_neg (by decide +kernel)]; exact ⟨rfl, rfl⟩))
    (fun os started H enc _ => seasons_lifted os started H enc)
end Go.Proofs.Ytbpflcilndinfaa
