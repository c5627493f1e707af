/-
  RUNS of the reference.
-/
import Derived.Test.YtbgjmclpahganaaRun1
import Derived.Test.YtbgjmclpahganaaCode1
namespace Go.Proofs.Ytbgjmclpahganaa.Eng
set_option linter.unusedSimpArgs false
set_option linter.unusedVariables false
/-- How many steps are possible. -/
def runN (a b : List Kn) (r : Int) (s : Kn) (l : List Rd) : Nat → Nat → Nat
  | 0, i => i
  | k + 1, i => if seA a b r (stN a b r s l i) (rat l i) = 0 then runN a b r s l k (i + 1) else i
theorem runN_le (a b : List Kn) (r : Int) (s : Kn) (l : List Rd) : ∀ k i, i ≤ runN a b r s l k i ∧ runN a b r s l k i ≤ i + k
  | 0, i => ⟨Nat.le_refl _, Nat.le_refl _⟩
  | k + 1, i => by
    have := runN_le a b r s l k (i + 1)
    unfold runN; split <;> omega
theorem runN_ok (a b : List Kn) (r : Int) (s : Kn) (l : List Rd) : ∀ k i, (∀ j, i ≤ j → j < runN a b r s l k i → seA a b r (stN a b r s l j) (rat l j) = 0) ∧ (runN a b r s l k i < i + k → seA a b r (stN a b r s l (runN a b r s l k i)) (rat l (runN a b r s l k i)) ≠ 0)
  | 0, i => ⟨fun j h1 h2 => by simp only [runN] at h2; omega, fun h => by simp only [runN] at h; omega⟩
  | k + 1, i => by
    obtain ⟨h1, h2⟩ := runN_ok a b r s l k (i + 1)
    unfold runN
    split
    · rename_i hz
      refine ⟨fun j j1 j2 => ?_, fun h => h2 (by omega)⟩
      by_cases e : j = i
      · subst e; exact hz
      · exact h1 j (by omega) j2
    · rename_i hz
      exact ⟨fun j j1 j2 => by omega, fun _ => hz⟩
theorem OutE_list {e : Nat} {σ : Store} {m0 : Nat} {xs : List Kn} {ys : List AVal} {j : Nat} : OutE e σ m0 xs (.list 2 ys (some j)) ↔ m0 ≤ j ∧ j < σ.next ∧ ys = kns xs ∧ σ.get j = some (.tok e 2 xs.length) := by
  constructor
  · rintro (⟨h, _⟩ | ⟨k, h1, h2, h3, h4⟩)
    · cases h
    · cases h3; exact ⟨h1, h2, rfl, h4⟩
  · rintro ⟨h1, h2, rfl, h4⟩
    exact .inr ⟨j, h1, h2, rfl, h4⟩
theorem OutE_nils {e : Nat} {σ : Store} {m0 : Nat} {xs : List Kn} : OutE e σ m0 xs .nils ↔ xs = [] := by
  constructor
  · rintro (⟨_, h⟩ | ⟨k, h1, h2, h3, h4⟩)
    · exact h
    · cases h3
  · rintro rfl; exact .inl ⟨rfl, rfl⟩
structure Fr16 (w : AVal) (tm : List AVal) : Prop where
  len : tm.length = 54
  t2 : XOpd.eval tm (.t 2) = w
  t3 : XOpd.eval tm (.t 3) = .ptr 0 0
  t4 : XOpd.eval tm (.t 4) = .ptr 1 0
  t7 : XOpd.eval tm (.t 7) = .ptr 2 0
  t10 : XOpd.eval tm (.t 10) = .ptr 3 0
structure Me16 (u v : AVal) (r : Int) (s z : Kn) (σ : Store) : Prop where
  nx : 4 ≤ σ.next
  g0 : σ.get 0 = some (.cells [u, v, .int .i64 r])
  g1 : σ.get 1 = some (.cells [.int .i64 s.1, .int .i64 s.2])
  g2 : σ.get 2 = some (.cells [.int .i64 0, .int .i64 0])
  g3 : σ.get 3 = some (.cells [.int .i64 z.1, .int .i64 z.2])
section
variable {X : FuncId → Option XFunc} (hX : VRunsCode X)
include hX
def RefV (a b : List Kn) (r : Int) (s : Kn) (l : List Rd) (z : AVal) : Prop := ∃ vs, KL (sts a b r s l (runN a b r s l l.length 0)) vs ∧ z = .tup [vs, .agg [.int .i64 (evS a b r s l (runN a b r s l l.length 0)), .int .i64 (spS a b r s l (runN a b r s l l.length 0))], .bool (decide (runN a b r s l l.length 0 = l.length))]
end
end Go.Proofs.Ytbgjmclpahganaa.Eng
