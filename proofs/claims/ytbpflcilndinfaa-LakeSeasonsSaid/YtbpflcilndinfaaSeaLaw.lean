/-
  LAKE: the law of the seasons, run.
-/
import Derived.Test.YtbpflcilndinfaaSeaRun
namespace Go.Proofs.Ytbpflcilndinfaa.Eng
set_option linter.unusedSimpArgs false
set_option linter.unusedVariables false

theorem minOn_year {l : List Sea} {d : Int} (h0 : (minOn l d).2 = 0) (h1 : 0 ≤ d) (h2 : d ≤ 99635) : minOn l (d + 365) = minOn l d := by
  have e1 : wi d 0 100000 = true := by simp [wi]; omega
  have e2 : wi (d + 365) 0 100000 = true := by simp [wi]; omega
  have e3 : (d + 365).tmod 365 = d.tmod 365 := by
    rw [Int.tmod_eq_emod_of_nonneg (by omega), Int.tmod_eq_emod_of_nonneg h1]; omega
  simp [minOn, e1, e2, e3]

section
variable {X : FuncId → Option XFunc} (hX : SeaCode X) (hA : ∀ σ, Run X (.call 11) [] σ = some (.ret, [.bool true], σ))
include hX hA
theorem sea8 {l : List Sea} {v : AVal} (hv : SeaV l v) (d : Int) (σ : Store) : Run X (.call 8) [v, .int .i64 d] σ = some (.ret, [.bool true], σ) := by
  have h25 := sea25 hX
  have hfr := sea_free l
  have hvs : v.strip = v := by
    rcases hv with ⟨rfl, rfl⟩ | rfl
    · rfl
    · simp [AVal.strip, freeL_strip hfr]
  have hvf : v.strip.free = true := by
    rcases hv with ⟨rfl, rfl⟩ | rfl
    · rfl
    · simp [AVal.strip, AVal.free, freeL_strip hfr, hfr]
  refine call2 (v := .bool true) hX.h8 hvf rfl (by decide) ?_ rfl σ
  intro tm hl h0 h1
  rw [hvs] at h0
  simp only [AVal.strip] at h1
  replace hl : tm.length = 59 := hl
  unfold Gives
  by_cases e0 : (14 : Int) < (l.length : Int)
  · rcases hv with ⟨rfl, rfl⟩ | rfl
    · simp at e0
    · simp [xf8, hl, h0, h1, hA, e0]
  · have hn : l.length ≤ 1000000 := by omega
    have h46 := sea46 hX hv hn
    have h45 := fun d => sea45 hX hn d
    have h47 := sea47 hX hv hn d
    rcases hv with ⟨rfl, _⟩ | rfl
    all_goals
      by_cases e1 : (minOn l d).2 = 0
      case neg => simp [xf8, hl, h0, h1, hA, e0, e1, h46, h45, h47, h25]
    all_goals
      cases e2 : wi d 0 99635
      case false => simp [xf8, hl, h0, h1, hA, e0, e1, e2, h46, h45, h47, h25]
    all_goals
      have e3 := e2
      simp only [wi, Bool.and_eq_true, decide_eq_true_eq] at e3
      have e4 := minOn_year e1 e3.1 e3.2
      have e5 : IntKind.i64.wrap (d + 365) = d + 365 := wrap_i64 (by omega) (by omega)
      simp [xf8, hl, h0, h1, hA, e0, e1, e2, e4, e5, h46, h45, h47, h25]
end
end Go.Proofs.Ytbpflcilndinfaa.Eng
