/-
  ENGINE: memory that is not known whole.
-/
import Derived.Test.YtgijgcmcpgepaaaEng2
namespace Go.Proofs.Ytgijgcmcpgepaaa.Eng
set_option linter.unusedSimpArgs false
set_option linter.unusedVariables false
theorem isIn_mem (l : List Nat) (n : Nat) : isIn l n = true ↔ n ∈ l := by
  simp only [isIn, List.any_eq_true]
  constructor
  · rintro ⟨x, h1, h2⟩; have := Nat.eq_of_beq_eq_true h2; subst this; exact h1
  · intro h; exact ⟨n, h, by simp⟩
theorem only_get (σ : Store) (l : List Nat) (n : Nat) : (σ.only l).get n = if isIn l n then σ.get n else none := by
  by_cases h : isIn l n = true
  · rw [if_pos h]; exact look_filterMap_mem l n ((isIn_mem l n).1 h)
  · rw [if_neg h]
    cases hg : (σ.only l).get n with
    | none => rfl
    | some o => exact absurd ((isIn_mem l n).2 (look_filterMap_in l n o hg)) h
theorem merge_get' (σ τ : Store) (wr : List Nat) (n : Nat) : (σ.merge τ wr).get n = if isIn wr n then τ.get n else σ.get n := by
  simp only [Store.merge, Store.get, look_append]
  rw [look_filter (p := fun k => isIn wr k), look_filter (p := fun k => !isIn wr k)]
  by_cases h : isIn wr n = true
  · simp [h]; cases look τ.objs n <;> rfl
  · simp [h]
theorem merge_only (σ : Store) (l : List Nat) : σ.merge (σ.only l) [] = σ := by
  have : ∀ m : List (Nat × NObj), m.filter (fun _ => false) = [] := fun m => by induction m <;> simp_all
  simp [Store.merge, Store.only, isIn, this]
theorem idx_add (k : IntKind) (a b : Nat) : idx (.int k ((a : Int) + (b : Int))) = some (a + b) := by
  have : ((a : Int) + (b : Int)) = ((a + b : Nat) : Int) := by omega
  rw [this]; rfl
theorem only_next (σ : Store) (l : List Nat) : (σ.only l).next = σ.next := rfl
theorem merge_next (σ τ : Store) (wr : List Nat) : (σ.merge τ wr).next = τ.next := rfl
theorem put_next (σ : Store) (n : Nat) (o : NObj) : (σ.put n o).next = σ.next := rfl
theorem upTo_self (n : Nat) : upTo n n = [] := by simp [upTo]
theorem put_get (g : Mem) (n m : Nat) (o : NObj) : g.put n o m = if n = m then some o else g m := rfl
theorem upTo_one (n : Nat) : upTo n (n + 1) = [n] := by
  have : n + 1 - n = 1 := by omega
  simp [upTo, this]
theorem new_next (σ : Store) (o : NObj) : (σ.new o).next = σ.next + 1 := rfl
end Go.Proofs.Ytgijgcmcpgepaaa.Eng
