/-
  SURGE: the law of steps that never cross.
-/
import Derived.Test.YtlknncjnfgnlaaaSuRun1
namespace Go.Proofs.Ytlknncjnfgnlaaa.Eng
set_option linter.unusedSimpArgs false
set_option linter.unusedVariables false
section
variable {X : FuncId → Option XFunc} (hX : SuACode X)
include hX
set_option maxHeartbeats 8000000 in
theorem u5 (hA : ∀ σ, Run X (.call 14) [] σ = some (.ret, [.bool true], σ)) (r : Ru) (s t : Int × Int) (u k : Int) (σ : Store) : Run X (.call 5) [r.enc, .agg [.int .i64 s.1, .int .i64 s.2, .int .i64 t.1, .int .i64 t.2], .agg [.int .i64 u, .int .i64 k]] σ = some (.ret, [.bool true], σ) := by
  have u16 := u16 hX r; have a18 := u18 hX s; have b18 := u18 hX t; have u20 := u20 hX u; have u21 := u21 hX r k
  simp only [Ru.enc, st] at u16 a18 b18 u21
  refine call3 (a := r.enc) (v := .bool true) hX.h5 rfl rfl rfl (by decide) (fun tm hl h0 h1 h2 => ?_) rfl σ
  simp only [AVal.strip, stripL, Ru.enc, st] at h0 h1 h2
  replace hl : tm.length = 138 := hl
  unfold Gives
  by_cases c1 : r.e = 0
  case neg => simp [xf5, hl, h0, h1, h2, hA, u16, a18, b18, u20, u21, c1, Store.empty, Store.new, Store.put, Store.get, look, putL, setR, Store.only, Store.merge, touch, wrote, upTo, isIn, okRec, hits, capsOf, xcaps, stripL, AVal.strip, freeL, AVal.free, fillR, chunks, mkV, List.filter]
  by_cases c2 : stE s = 0
  case neg => simp [xf5, hl, h0, h1, h2, hA, u16, a18, b18, u20, u21, c1, c2, Store.empty, Store.new, Store.put, Store.get, look, putL, setR, Store.only, Store.merge, touch, wrote, upTo, isIn, okRec, hits, capsOf, xcaps, stripL, AVal.strip, freeL, AVal.free, fillR, chunks, mkV, List.filter]
  by_cases c3 : stE t = 0
  case neg => simp [xf5, hl, h0, h1, h2, hA, u16, a18, b18, u20, u21, c1, c2, c3, ix1, Store.empty, Store.new, Store.put, Store.get, look, putL, setR, Store.only, Store.merge, touch, wrote, upTo, isIn, okRec, hits, capsOf, xcaps, stripL, AVal.strip, freeL, AVal.free, fillR, chunks, mkV, List.filter]
  by_cases c4 : ldE u = 0
  case neg => simp [xf5, hl, h0, h1, h2, hA, u16, a18, b18, u20, u21, c1, c2, c3, c4, ix1, Store.empty, Store.new, Store.put, Store.get, look, putL, setR, Store.only, Store.merge, touch, wrote, upTo, isIn, okRec, hits, capsOf, xcaps, stripL, AVal.strip, freeL, AVal.free, fillR, chunks, mkV, List.filter]
  by_cases c5 : frE r k = 0
  case neg => simp [xf5, hl, h0, h1, h2, hA, u16, a18, b18, u20, u21, c1, c2, c3, c4, c5, ix1, Store.empty, Store.new, Store.put, Store.get, look, putL, setR, Store.only, Store.merge, touch, wrote, upTo, isIn, okRec, hits, capsOf, xcaps, stripL, AVal.strip, freeL, AVal.free, fillR, chunks, mkV, List.filter]
  obtain ⟨lo, hlo⟩ : ∃ lo, lo = if t.1 < s.1 then t.1 else s.1 := ⟨_, rfl⟩
  obtain ⟨hi, hhi⟩ : ∃ hi, hi = if s.1 < t.1 then t.1 else s.1 := ⟨_, rfl⟩
  obtain ⟨sl, hsl⟩ : ∃ sl, sl = if t.2 < s.2 then t.2 else s.2 := ⟨_, rfl⟩
  obtain ⟨fa, hfa⟩ : ∃ fa, fa = if s.2 < t.2 then t.2 else s.2 := ⟨_, rfl⟩
  have i1 := stpE_in (r := r) (s := s) (u := u) (k := k) (by unfold stpE; simp only [c1, c2, c4, c5, if_true])
  have ok := i1.ok
  have e2 : stE (lo, sl) = 0 := by
    unfold stE at c2 c3 ⊢
    split at c2 <;> try omega
    rename_i d2
    split at c3 <;> try omega
    rename_i d3
    simp only [Bool.and_eq_true, win_iff] at d2 d3
    rw [if_pos]
    simp only [Bool.and_eq_true, win_iff]
    rw [hlo, hsl]; split <;> split <;> omega
  have e3 : stE (hi, sl) = 0 := by
    unfold stE at c2 c3 ⊢
    split at c2 <;> try omega
    rename_i d2
    split at c3 <;> try omega
    rename_i d3
    simp only [Bool.and_eq_true, win_iff] at d2 d3
    rw [if_pos]
    simp only [Bool.and_eq_true, win_iff]
    rw [hhi, hsl]; split <;> split <;> omega
  have e4 : stE (lo, fa) = 0 := by
    unfold stE at c2 c3 ⊢
    split at c2 <;> try omega
    rename_i d2
    split at c3 <;> try omega
    rename_i d3
    simp only [Bool.and_eq_true, win_iff] at d2 d3
    rw [if_pos]
    simp only [Bool.and_eq_true, win_iff]
    rw [hlo, hfa]; split <;> split <;> omega
  have p2 : stpE r (lo, sl) u k = 0 := by unfold stpE; simp only [c1, e2, c4, c5, if_true]
  have p3 : stpE r (hi, sl) u k = 0 := by unfold stpE; simp only [c1, e3, c4, c5, if_true]
  have p4 : stpE r (lo, fa) u k = 0 := by unfold stpE; simp only [c1, e4, c4, c5, if_true]
  have x2 := stpE_in p2; have x4 := stpE_in p4
  have y2 := u15 hX r (lo, sl) u k; have y3 := u15 hX r (hi, sl) u k; have y4 := u15 hX r (lo, fa) u k
  simp only [p2, p3, p4, if_true, Ru.enc, st] at y2 y3 y4
  have hk : k ≤ r.hi := by
    unfold frE at c5
    split at c5 <;> try omega
    rename_i d5
    exact (win_iff.1 d5).2
  have m1 := cross_z (r := r) ok (y := lo) (z := hi) (q := sl) (u := u) (k := k) (by rw [hlo, hhi]; split <;> split <;> omega)
  have m2 := cross_q (r := r) ok (z := lo) (p := sl) (q := fa) (u := u) (k := k) x2.k0 hk x2.u0 x2.u1 x2.q0 (by rw [hsl, hfa]; split <;> split <;> omega) x4.q1
  have f2 : (stepS r (lo, sl) u k).2 = stepQ r (lo, sl) u k := rfl
  have f3 : (stepS r (hi, sl) u k).2 = stepQ r (hi, sl) u k := rfl
  have f4 : (stepS r (lo, fa) u k).2 = stepQ r (lo, fa) u k := rfl
  simp [xf5, hl, h0, h1, h2, hA, u16, a18, b18, u20, u21, c1, c2, c3, c4, c5, ← hlo, ← hhi, ← hsl, ← hfa, y2, y3, y4, f2, f3, f4, m1.1, m1.2, m2.1, m2.2, ix1, xext, xmm, Store.empty, Store.new, Store.put, Store.get, look, putL, setR, Store.only, Store.merge, touch, wrote, upTo, isIn, okRec, hits, capsOf, xcaps, stripL, AVal.strip, freeL, AVal.free, fillR, chunks, mkV, List.filter]
end
end Go.Proofs.Ytlknncjnfgnlaaa.Eng
