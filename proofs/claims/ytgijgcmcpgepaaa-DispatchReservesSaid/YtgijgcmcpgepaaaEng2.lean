/-
  ENGINE: calls with four and five arguments; small numbers.
-/
import Derived.Test.YtgijgcmcpgepaaaEng1
namespace Go.Proofs.Ytgijgcmcpgepaaa.Eng
set_option linter.unusedSimpArgs false
set_option linter.unusedVariables false
theorem call4 {X : FuncId → Option XFunc} {f : FuncId} {xf : XFunc} {a b c d v : AVal} (hx : X f = some xf) (hf : a.strip.free = true) (hg : b.strip.free = true) (hh : c.strip.free = true) (hi : d.strip.free = true) (hn : 4 ≤ xf.ntmps)
    (h : ∀ tm, tm.length = xf.ntmps → XOpd.eval tm (.t 0) = a.strip → XOpd.eval tm (.t 1) = b.strip → XOpd.eval tm (.t 2) = c.strip → XOpd.eval tm (.t 3) = d.strip → Gives X xf tm v) (hv : v.strip.free = true) (σ : Store) : Run X (.call f) [a, b, c, d] σ = some (.ret, [v.strip], σ) := by
  refine call_pure hx (by simp [stripL, freeL, hf, hg, hh, hi]) (h _ (by simp [stripL]; omega) ?_ ?_ ?_ ?_) hv σ
  all_goals (rw [eval_frame _ _ _ (by simp [stripL])]; simp [stripL])
theorem call5 {X : FuncId → Option XFunc} {f : FuncId} {xf : XFunc} {a b c d e v : AVal} (hx : X f = some xf) (ha : a.strip.free = true) (hb : b.strip.free = true) (hc : c.strip.free = true) (hd : d.strip.free = true) (he : e.strip.free = true) (hn : 5 ≤ xf.ntmps)
    (h : ∀ tm, tm.length = xf.ntmps → XOpd.eval tm (.t 0) = a.strip → XOpd.eval tm (.t 1) = b.strip → XOpd.eval tm (.t 2) = c.strip → XOpd.eval tm (.t 3) = d.strip → XOpd.eval tm (.t 4) = e.strip → Gives X xf tm v) (hv : v.strip.free = true) (σ : Store) : Run X (.call f) [a, b, c, d, e] σ = some (.ret, [v.strip], σ) := by
  refine call_pure hx (by simp [stripL, freeL, ha, hb, hc, hd, he]) (h _ (by simp [stripL]; omega) ?_ ?_ ?_ ?_ ?_) hv σ
  all_goals (rw [eval_frame _ _ _ (by simp [stripL])]; simp [stripL])
theorem ix1 (k : IntKind) : idx (.int k 1) = some 1 := rfl
theorem ix2 (k : IntKind) : idx (.int k 2) = some 2 := rfl
theorem ix3 (k : IntKind) : idx (.int k 3) = some 3 := rfl
theorem wr1 : IntKind.i64.wrap 1 = 1 := rfl
theorem wr2 : IntKind.i64.wrap 2 = 2 := rfl
theorem wr3 : IntKind.i64.wrap 3 = 3 := rfl
theorem ix4 (k : IntKind) : idx (.int k 4) = some 4 := rfl
theorem wr4 : IntKind.i64.wrap 4 = 4 := rfl
end Go.Proofs.Ytgijgcmcpgepaaa.Eng
