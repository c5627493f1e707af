/-
  Values of arrays.
-/
import Derived.Test.YtlknncjnfgnlaaaSuVals
namespace Go.Proofs.Ytlknncjnfgnlaaa.Eng
theorem HasV.array_inv {P : Program} {t e : TypeId} {n : Nat} {x : AVal} (ht : P.underlying t = some (.array n e)) (h : HasV P t x) : ∃ vs : List AVal, x = .agg (vs.flatMap AVal.cells) ∧ vs.length = n ∧ ∀ (i : Nat) (y : AVal), vs[i]? = some y → HasV P e y := by
  cases h with
  | int t k' n h1 h2 => rw [ht] at h1; cases h1
  | bool t b h1 => rw [ht] at h1; cases h1
  | str t s h1 h2 => rw [ht] at h1; cases h1
  | nils t e h1 => rw [ht] at h1; cases h1
  | list t e xs h1 => rw [ht] at h1; cases h1
  | struct t fs' vs h1 h2 h3 => rw [ht] at h1; cases h1
  | array t e' n' vs h1 h2 h3 =>
    rw [ht] at h1
    cases h1
    exact ⟨vs, rfl, h2, h3⟩
end Go.Proofs.Ytlknncjnfgnlaaa.Eng
namespace Go.Proofs.Ytlknncjnfgnlaaa
open Go.ChangeShapes Go.WideShapes Go.ChangeAt Go.RowKit Go.Proofs.Ytlknncjnfgnlaaa.Eng
set_option linter.unusedSimpArgs false
set_option linter.unusedVariables false
theorem two_val {v : AVal} (h : HasV Try.prog 66 v) : ∃ s t : Int × Int, v = .agg [.int .i64 s.1, .int .i64 s.2, .int .i64 t.1, .int .i64 t.2] := by
  obtain ⟨vs, rfl, hl, hv⟩ := h.array_inv Try.underlying66
  match vs, hl with
  | [a, b], _ =>
    obtain ⟨s, rfl⟩ := state_val (hv 0 _ rfl)
    obtain ⟨t, rfl⟩ := state_val (hv 1 _ rfl)
    exact ⟨s, t, rfl⟩
end Go.Proofs.Ytlknncjnfgnlaaa
