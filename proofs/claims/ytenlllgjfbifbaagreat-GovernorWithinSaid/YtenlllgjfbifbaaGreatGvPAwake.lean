/-
  The examples hold.
-/
import Derived.Test.YtenlllgjfbifbaaGreatEngX
import Derived.Test.YtenlllgjfbifbaaGreatProg
import Derived.KernelRfl
namespace Go.Proofs.YtenlllgjfbifbaaGreat.Eng
open Go.Proofs
def isTrue (r : Option (XExit × List AVal × Store)) : Bool := match r with
  | some (.ret, [.bool b], σ) => b && σ.objs.isEmpty && Nat.beq σ.next 0
  | _ => false
theorem isTrue_eq {r : Option (XExit × List AVal × Store)} (h : isTrue r = true) : r = some (.ret, [.bool true], Store.empty) := by
  unfold isTrue at h
  split at h
  · next b σ =>
    simp only [Bool.and_eq_true, List.isEmpty_iff, Nat.beq_eq] at h
    obtain ⟨⟨rfl, h1⟩, h2⟩ := h
    cases σ
    simp only at h1 h2
    subst h1; subst h2; rfl
  · cases h
theorem awake_true : isTrue (run (xprog Tryz.prog [3000042, 4000003, 2000126, 2000129]) 512 (.call 12) [] Store.empty) = true := by kernel_rfl
end Go.Proofs.YtenlllgjfbifbaaGreat.Eng
