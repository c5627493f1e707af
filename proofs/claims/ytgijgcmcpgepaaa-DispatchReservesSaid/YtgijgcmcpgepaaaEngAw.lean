/-
  ENGINE: examples that another compile runs.
-/
import Derived.Test.YtgijgcmcpgepaaaEngZ
namespace Go.Proofs.Ytgijgcmcpgepaaa.Eng
set_option linter.unusedSimpArgs false
set_option linter.unusedVariables false
def gAw : List AVal → Option AVal
  | [.tup []] => some (.bool true)
  | _ => none
theorem run_undef {X : FuncId → Option XFunc} {f : FuncId} {r : Option RRes} (hn : ((X f).any fun xf => decide (1 ≤ xf.ntmps)) = true) (h : Run X (.call f) [] Store.empty = r) : Run X (.call f) [aundef] Store.empty = r := by
  rw [← h, Run_step, Run_step]
  simp only [step]
  cases hx : X f with
  | none => rfl
  | some xf =>
    have h1 : 1 ≤ xf.ntmps := by simpa [hx] using hn
    obtain ⟨k, hk⟩ : ∃ k, xf.ntmps = k + 1 := ⟨xf.ntmps - 1, by omega⟩
    have e : stripL [aundef] ++ List.replicate (xf.ntmps - (stripL [aundef]).length) aundef = stripL [] ++ List.replicate (xf.ntmps - (stripL []).length) aundef := by
      rw [hk]; rfl
    have f1 : freeL (stripL [aundef]) = true := rfl
    have f2 : freeL (stripL []) = true := rfl
    simp only [f1, f2, if_true, e]
/-- Where the examples hold in one compile they are given in another one. -/
theorem known_awake {P : Program} {nofz nofz' : List FuncId} {X : FuncId → Option XFunc} {aw : FuncId} (hm : P.follows .mixedOrders = true) (hX : Known P nofz X) (hn : ((X aw).any fun xf => decide (1 ≤ xf.ntmps)) = true) (h : Run X (.call aw) [] Store.empty = some (.ret, [.bool true], Store.empty))
    (gs : List (FuncId × Nat × (List AVal → Option AVal))) (hgs : ∀ q ∈ gs, 1 ≤ q.2.1 ∧ ∀ args v, q.2.2 (args ++ List.replicate (q.2.1 - args.length) aundef) = some v → v.free = true ∧ v.strip = v ∧ PureOk P q.1 args v) : Known P nofz' (xprogG P nofz' ((aw, 1, gAw) :: gs)) :=
  known_xprogG _ _ _ (fun q hq => by
    rcases List.mem_cons.1 hq with rfl | hq
    · refine ⟨Nat.le_refl 1, fun args v hv => ?_⟩
      match args, hv with
      | [], hv =>
        have hv : some (AVal.bool true) = some v := hv
        cases hv
        exact ⟨rfl, rfl, pure_of_known hm hX rfl h⟩
      | [a], hv =>
        have hv : gAw [a] = some v := hv
        unfold gAw at hv
        split at hv
        · rename_i e
          cases e; cases hv
          exact ⟨rfl, rfl, pure_of_known hm hX rfl (run_undef hn h)⟩
        · cases hv
      | a :: b :: l, hv =>
        have hv : gAw (a :: b :: (l ++ List.replicate (1 - (a :: b :: l).length) aundef)) = some v := hv
        unfold gAw at hv
        split at hv
        · rename_i e; cases e
        · cases hv
    · exact hgs q hq)
theorem awake_given (P : Program) (nofz : List FuncId) (aw : FuncId) (gs : List (FuncId × Nat × (List AVal → Option AVal))) (σ : Store) : Run (xprogG P nofz ((aw, 1, gAw) :: gs)) (.call aw) [] σ = some (.ret, [.bool true], σ) := by
  have hX : xprogG P nofz ((aw, 1, gAw) :: gs) aw = some ⟨.given gAw, 1, [.t 0]⟩ := by
    unfold xprogG
    simp [List.find?]
  refine call_pure (v := .bool true) hX rfl ?_ rfl σ
  show Gives _ _ [aundef] _
  unfold Gives
  rw [Run_given]
  rfl
end Go.Proofs.Ytgijgcmcpgepaaa.Eng
