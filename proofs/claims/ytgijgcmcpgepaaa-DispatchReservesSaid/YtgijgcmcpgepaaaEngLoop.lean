/-
  ENGINE: loops whose rounds are counted.
-/
import Derived.Test.YtgijgcmcpgepaaaEng5
namespace Go.Proofs.Ytgijgcmcpgepaaa.Eng
set_option linter.unusedSimpArgs false
set_option linter.unusedVariables false
/-- The first number, of so many from one on, that is hit. -/
def fstP (p : Nat → Bool) : Nat → Nat → Option Nat
  | 0, _ => none
  | k + 1, i => if p i then some i else fstP p k (i + 1)
theorem fstP_some {p : Nat → Bool} : ∀ {k i j : Nat}, fstP p k i = some j → i ≤ j ∧ j < i + k ∧ p j = true ∧ ∀ q, i ≤ q → q < j → p q = false
  | 0, i, j, h => by simp [fstP] at h
  | k + 1, i, j, h => by
    unfold fstP at h
    cases hp : p i with
    | true => rw [hp] at h; simp at h; subst h; exact ⟨by omega, by omega, hp, fun q h1 h2 => by omega⟩
    | false =>
      rw [hp] at h; simp at h
      obtain ⟨h1, h2, h3, h4⟩ := fstP_some h
      refine ⟨by omega, by omega, h3, fun q q1 q2 => ?_⟩
      by_cases e : q = i
      · rw [e]; exact hp
      · exact h4 q (by omega) q2
theorem fstP_none {p : Nat → Bool} : ∀ {k i : Nat}, fstP p k i = none → ∀ q, i ≤ q → q < i + k → p q = false
  | 0, i, h, q, h1, h2 => by omega
  | k + 1, i, h, q, h1, h2 => by
    unfold fstP at h
    cases hp : p i with
    | true => rw [hp] at h; simp at h
    | false =>
      rw [hp] at h; simp at h
      by_cases e : q = i
      · rw [e]; exact hp
      · exact fstP_none h q (by omega) (by omega)
def exF (e0 e1 : XExit) : Option Nat → XExit
  | none => e0
  | some _ => e1
def quF (Q0 : List AVal → Store → Prop) (Q1 : Nat → List AVal → Store → Prop) : Option Nat → List AVal → Store → Prop
  | none => Q0
  | some j => Q1 j
/-- A loop that counts: it goes on where p is false, it leaves in the round where p is true, or behind all rounds. -/
theorem loop_stop {X : FuncId → Option XFunc} {c : XCode} (n : Nat) (p : Nat → Bool) (I : Nat → List AVal → Store → Prop) {e0 e1 : XExit} {Q0 : List AVal → Store → Prop} {Q1 : Nat → List AVal → Store → Prop} (h0 : e0 ≠ .normal) (h1 : e1 ≠ .normal)
    (hr : ∀ i tm σ, i < n → p i = false → I i tm σ → Ends (Run X (.code c) tm σ) .normal (I (i + 1)))
    (hs : ∀ i tm σ, i < n → p i = true → I i tm σ → Ends (Run X (.code c) tm σ) e1 (Q1 i))
    (hz : ∀ tm σ, I n tm σ → Ends (Run X (.code c) tm σ) e0 Q0) :
    ∀ (k i : Nat), i + k = n → ∀ tm σ, I i tm σ → Ends (Run X (.code (.loop c)) tm σ) (exF e0 e1 (fstP p k i)) (quF Q0 Q1 (fstP p k i))
  | 0, i, hk, tm, σ, hI => by
    have : i = n := by omega
    subst this
    obtain ⟨o1, o2⟩ := out_of (hz tm σ hI)
    refine ⟨_, _, ?_, o2⟩
    rw [Run_loop, o1]
    cases e0 with
    | normal => exact absurd rfl h0
    | exit i => rfl
    | ret => rfl
  | k + 1, i, hk, tm, σ, hI => by
    unfold fstP
    cases hp : p i with
    | true =>
      obtain ⟨o1, o2⟩ := out_of (hs i tm σ (by omega) hp hI)
      refine ⟨_, _, ?_, o2⟩
      rw [Run_loop, o1]
      cases e1 with
      | normal => exact absurd rfl h1
      | exit i => rfl
      | ret => rfl
    | false =>
      obtain ⟨o1, o2⟩ := out_of (hr i tm σ (by omega) hp hI)
      obtain ⟨tm', σ', q1, q2⟩ := loop_stop n p I h0 h1 hr hs hz k (i + 1) (by omega) _ _ o2
      refine ⟨tm', σ', ?_, q2⟩
      rw [Run_loop, o1, thenC_normal]
      exact q1
theorem fstP_never (k i : Nat) : fstP (fun _ => false) k i = none := by
  induction k generalizing i with
  | zero => rfl
  | succ k ih => unfold fstP; simp; exact ih (i + 1)
/-- A loop that counts. -/
theorem loop_all {X : FuncId → Option XFunc} {c : XCode} (n : Nat) (I : Nat → List AVal → Store → Prop) {e0 : XExit} {Q0 : List AVal → Store → Prop} (h0 : e0 ≠ .normal)
    (hr : ∀ i tm σ, i < n → I i tm σ → Ends (Run X (.code c) tm σ) .normal (I (i + 1)))
    (hz : ∀ tm σ, I n tm σ → Ends (Run X (.code c) tm σ) e0 Q0) (tm : List AVal) (σ : Store) (hI : I 0 tm σ) : Ends (Run X (.code (.loop c)) tm σ) e0 Q0 := by
  have := loop_stop n (fun _ => false) I (e1 := e0) (Q1 := fun _ => Q0) h0 h0 (fun i tm σ h _ => hr i tm σ h) (fun i tm σ h hp => by simp at hp) hz n 0 (by omega) tm σ hI
  rw [fstP_never] at this
  exact this
end Go.Proofs.Ytgijgcmcpgepaaa.Eng
