/-
  ENGINE: code that is cut at a loop.
-/
import Derived.Test.YtgijgcmcpgepaaaEngZ
namespace Go.Proofs.Ytgijgcmcpgepaaa.Eng
set_option linter.unusedSimpArgs false
set_option linter.unusedVariables false
/-- What comes before the second part of a segment, this part, and what comes behind. -/
def XCode.cutP : Nat → XCode → XCode
  | 0, .seq (.seq x _) _ => x
  | n + 1, .seq a c => .seq a (XCode.cutP n c)
  | _, _ => .skip
def XCode.cutB : Nat → XCode → XCode
  | 0, .seq (.seq _ y) _ => y
  | n + 1, .seq _ c => XCode.cutB n c
  | _, c => c
def XCode.cutR : Nat → XCode → XCode
  | 0, .seq (.seq _ _) r => r
  | n + 1, .seq _ c => XCode.cutR n c
  | _, _ => .skip
section
variable {X : FuncId → Option XFunc}
theorem thenC_skip (r : Option RRes) : thenC X r .skip = r := by
  rcases r with _ | ⟨e, tm, σ⟩
  · rfl
  · cases e with
    | normal => rw [thenC_normal, Run_skip]
    | exit i => rfl
    | ret => rfl
theorem thenC_seq (r : Option RRes) (b c : XCode) : thenC X r (.seq b c) = thenC X (thenC X r b) c := by
  rcases r with _ | ⟨e, tm, σ⟩
  · rfl
  · cases e with
    | normal => rw [thenC_normal, Run_seq, thenC_normal]
    | exit i => rfl
    | ret => rfl
theorem Run_cut : ∀ (n : Nat) (c : XCode) (tm : List AVal) (σ : Store), Run X (.code c) tm σ = thenC X (thenC X (Run X (.code (c.cutP n)) tm σ) (c.cutB n)) (c.cutR n)
  | 0, .seq (.seq x y) r, tm, σ => by
    show _ = thenC X (thenC X (Run X (.code x) tm σ) y) r
    rw [Run_seq, Run_seq]
  | n + 1, .seq a c, tm, σ => by
    show _ = thenC X (thenC X (Run X (.code (.seq a (c.cutP n))) tm σ) (c.cutB n)) (c.cutR n)
    rw [Run_seq, Run_seq]
    rcases Run X (.code a) tm σ with _ | ⟨e, tm1, σ1⟩
    · rfl
    · cases e with
      | normal => rw [thenC_normal, thenC_normal]; exact Run_cut n c tm1 σ1
      | exit i => rfl
      | ret => rfl
  | 0, .skip, tm, σ | 0, .reg _, tm, σ | 0, .dreg _, tm, σ | 0, .cond .., tm, σ | 0, .block .., tm, σ | 0, .loop _, tm, σ | 0, .exit _, tm, σ | 0, .ret, tm, σ | 0, .rangeF .., tm, σ | 0, .given _, tm, σ => by
    simp only [XCode.cutP, XCode.cutB, XCode.cutR]; rw [thenC_skip, Run_skip]; first | exact (thenC_normal _ _ _).symm | rw [thenC_normal, Run_skip]
  | n + 1, .skip, tm, σ | n + 1, .reg _, tm, σ | n + 1, .dreg _, tm, σ | n + 1, .cond .., tm, σ | n + 1, .block .., tm, σ | n + 1, .loop _, tm, σ | n + 1, .exit _, tm, σ | n + 1, .ret, tm, σ | n + 1, .rangeF .., tm, σ | n + 1, .given _, tm, σ => by
    simp only [XCode.cutP, XCode.cutB, XCode.cutR]; rw [thenC_skip, Run_skip]; first | exact (thenC_normal _ _ _).symm | rw [thenC_normal, Run_skip]
  | 0, .seq .skip _, tm, σ | 0, .seq (.reg _) _, tm, σ | 0, .seq (.dreg _) _, tm, σ | 0, .seq (.cond ..) _, tm, σ | 0, .seq (.block ..) _, tm, σ | 0, .seq (.loop _) _, tm, σ | 0, .seq (.exit _) _, tm, σ | 0, .seq .ret _, tm, σ | 0, .seq (.rangeF ..) _, tm, σ | 0, .seq (.given _) _, tm, σ => by
    simp only [XCode.cutP, XCode.cutB, XCode.cutR]; rw [thenC_skip, Run_skip]; first | exact (thenC_normal _ _ _).symm | rw [thenC_normal, Run_skip]
/-- What is called gets its arguments stripped. -/
theorem call_stripped {f : FuncId} {args : List AVal} (h : freeL (stripL args) = true) (σ : Store) : Run X (.call f) args σ = Run X (.call f) (stripL args) σ := by
  have e := freeL_strip h
  rw [Run_step, Run_step]
  simp only [step, e, h, if_true]
end
end Go.Proofs.Ytgijgcmcpgepaaa.Eng
