/-
  SURGE: the law of steps.
-/
import Derived.Test.YtlknncjnfgnlaaaSuRun1
namespace Go.Proofs.Ytlknncjnfgnlaaa.Eng
set_option linter.unusedSimpArgs false
set_option linter.unusedVariables false
section
variable {X : FuncId → Option XFunc} (hX : SuACode X)
include hX
set_option maxHeartbeats 4000000 in
theorem u3 (hA : ∀ σ, Run X (.call 14) [] σ = some (.ret, [.bool true], σ)) (r : Ru) (s : Int × Int) (u k : Int) (σ : Store) : Run X (.call 3) [r.enc, st s, .agg [.int .i64 u, .int .i64 k]] σ = some (.ret, [.bool true], σ) := by
  have u15 := u15 hX r s u k; have u16 := u16 hX r; have u17 := u17 hX r; have u18 := u18 hX s; have u19 := u19 hX r s; have u20 := u20 hX u; have u21 := u21 hX r k
  simp only [Ru.enc, st] at u15 u16 u17 u18 u19 u21
  refine call3 (a := r.enc) (b := st s) (v := .bool true) hX.h3 rfl rfl rfl (by decide) (fun tm hl h0 h1 h2 => ?_) rfl σ
  simp only [AVal.strip, stripL, Ru.enc, st] at h0 h1 h2
  replace hl : tm.length = 68 := hl
  unfold Gives
  by_cases c1 : r.e = 0
  case neg =>
    have e : stpE r s u k = r.e := by unfold stpE; rw [if_neg c1]
    simp only [e, c1, if_false] at u15 u19
    simp [xf3, hl, h0, h1, h2, hA, u15, u16, u17, u18, u19, u20, u21, c1, Store.empty, Store.new, Store.put, Store.get, look, putL, setR, Store.only, Store.merge, touch, wrote, upTo, isIn, okRec, hits, capsOf, xcaps, stripL, AVal.strip, freeL, AVal.free, fillR, chunks, mkV, List.filter]
    done
  by_cases c2 : stE s = 0
  case neg =>
    have e : stpE r s u k = stE s := by unfold stpE; rw [if_pos c1, if_neg c2]
    simp only [e, c1, c2, if_true, if_false] at u15 u19
    simp [xf3, hl, h0, h1, h2, hA, u15, u16, u17, u18, u19, u20, u21, c1, c2, Store.empty, Store.new, Store.put, Store.get, look, putL, setR, Store.only, Store.merge, touch, wrote, upTo, isIn, okRec, hits, capsOf, xcaps, stripL, AVal.strip, freeL, AVal.free, fillR, chunks, mkV, List.filter]
    done
  by_cases c3 : ldE u = 0
  case neg =>
    have e : stpE r s u k = ldE u := by unfold stpE; rw [if_pos c1, if_pos c2, if_neg c3]
    simp only [e, c1, c2, c3, if_true, if_false] at u15 u19
    simp [xf3, hl, h0, h1, h2, hA, u15, u16, u17, u18, u19, u20, u21, c1, c2, c3, Store.empty, Store.new, Store.put, Store.get, look, putL, setR, Store.only, Store.merge, touch, wrote, upTo, isIn, okRec, hits, capsOf, xcaps, stripL, AVal.strip, freeL, AVal.free, fillR, chunks, mkV, List.filter]
    done
  have e : stpE r s u k = frE r k := by unfold stpE; rw [if_pos c1, if_pos c2, if_pos c3]
  by_cases c4 : frE r k = 0
  case neg =>
    simp only [e, c1, c2, c3, c4, if_true, if_false] at u15 u19
    simp [xf3, hl, h0, h1, h2, hA, u15, u16, u17, u18, u19, u20, u21, c1, c2, c3, c4, Store.empty, Store.new, Store.put, Store.get, look, putL, setR, Store.only, Store.merge, touch, wrote, upTo, isIn, okRec, hits, capsOf, xcaps, stripL, AVal.strip, freeL, AVal.free, fillR, chunks, mkV, List.filter]
    done
  have i := stpE_in (e.trans c4)
  have u22 := u22 hX i
  simp only [e, c1, c2, c3, c4, if_true] at u15 u19
  simp only [Ru.enc, st] at u22
  simp [xf3, hl, h0, h1, h2, hA, u15, u16, u17, u18, u19, u20, u21, u22, c1, c2, c3, c4, Store.empty, Store.new, Store.put, Store.get, look, putL, setR, Store.only, Store.merge, touch, wrote, upTo, isIn, okRec, hits, capsOf, xcaps, stripL, AVal.strip, freeL, AVal.free, fillR, chunks, mkV, List.filter]
end
end Go.Proofs.Ytlknncjnfgnlaaa.Eng
