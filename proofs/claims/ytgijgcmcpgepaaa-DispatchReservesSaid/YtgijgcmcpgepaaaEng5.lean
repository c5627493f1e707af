/-
  ENGINE: a loop over a function that hands on values, whole.
-/
import Derived.Test.YtgijgcmcpgepaaaEng4
namespace Go.Proofs.Ytgijgcmcpgepaaa.Eng
set_option linter.unusedSimpArgs false
set_option linter.unusedVariables false
theorem range_it {X : FuncId → Option XFunc} {n : Nat} {ps : List Nat} {a b : XCode} {g : FuncId} {first caps xs : List AVal} (it : ItOk X g first caps xs) {tm : List AVal} {σ : Store} (hf : XOpd.eval tm (.t n) = .fn g first caps) {J : Nat → Store → Prop}
    (hJ0 : J 0 (σ.new (.oth (.loop .ready tm ps a b))))
    (hst : ∀ i σ1 τ, J i σ1 → (∀ k, k ≠ σ.next + 1 → k < σ1.next → τ.get k = σ1.get k) → σ1.next ≤ τ.next → J i τ)
    (hrd : ∀ i x σ1, xs[i]? = some x → J i σ1 → σ.next + 1 < σ1.next → ∃ σ', Run X (.round σ.next) [x] σ1 = some (.ret, [.bool true], σ') ∧ J (i + 1) σ' ∧ σ'.get (σ.next + 1) = σ1.get (σ.next + 1) ∧ σ1.next ≤ σ'.next)
    (hlp : ∀ σ1, J xs.length σ1 → ∃ tm' ps' a' b', σ1.get σ.next = some (.oth (.loop .ready tm' ps' a' b'))) :
    ∃ τ, J xs.length τ ∧ Run X (.code (.rangeF (.t n) ps a b)) tm σ = some (.normal, tm, τ.drop σ.next) := by
  obtain ⟨σ0, hσ0⟩ : ∃ σ0, σ.new (.oth (.loop .ready tm ps a b)) = σ0 := ⟨_, rfl⟩
  have n0 : σ0.next = σ.next + 1 := by rw [← hσ0]; rfl
  rw [hσ0] at hJ0
  obtain ⟨τ, hrun, hJ⟩ := it (m := σ.next) (σ0 := σ0) (J := J) hJ0 (by rw [n0]; exact hst) (by rw [n0]; exact hrd)
  refine ⟨τ, hJ, ?_⟩
  obtain ⟨tm', ps', a', b', hg⟩ := hlp τ hJ
  have hcall : Run X (.code (.rangeF (.t n) ps a b)) tm σ = rangeC (some (.ret, [.tup []], gc σ0 τ (.tup []))) σ.next tm := by
    rw [Run_rangeF, hf]
    simp only [rangeD, hσ0]
    rw [hrun]
  have ho : rangeOut (gc σ0 τ (.tup [])) σ.next = some .normal := by
    show rangeOut τ σ.next = some .normal
    unfold rangeOut; rw [hg]
  rw [hcall, rangeC_some _ _ _ _ _ ho]; rfl
end Go.Proofs.Ytgijgcmcpgepaaa.Eng
