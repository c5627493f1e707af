/-
  The examples hold.
-/
import Derived.Test.YtbgjmclpahganaaGreatEngX
import Derived.Test.YtbgjmclpahganaaGreatProg
import Derived.KernelRfl
namespace Go.Proofs.YtbgjmclpahganaaGreat.Eng
open Go.Proofs
def isTrue (r : Option (XExit × List AVal × Store)) : Bool := match r with
  | some (.ret, [.bool b], σ) => b && σ.objs.isEmpty && Nat.beq σ.next 0
  | _ => false
theorem isTrue_eq {r : Option (XExit × List AVal × Store)} (h : isTrue r = true) : r = some (.ret, [.bool true], Store.empty) := by
  unfold isTrue at h
  split at h
  · next b σ =>
    simp only [Bool.and_eq_true, List.isEmpty_iff, Nat.beq_eq] at h
    obtain ⟨⟨rfl, h1⟩, h2⟩ := h
    cases σ
    simp only at h1 h2
    subst h1; subst h2; rfl
  · cases h
theorem awake_true : isTrue (run (xprog Tryz.prog [90, 1000147]) 256 (.call 8) [] Store.empty) = true := by kernel_rfl
end Go.Proofs.YtbgjmclpahganaaGreat.Eng
