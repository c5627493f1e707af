/-
  RUNS, A: the steps of a run, as they come one by one.
-/
import Derived.Test.YtbgjmclpahganaaGreatPair1
import Derived.Test.YtbgjmclpahganaaGreatRead1
import Derived.Test.YtbgjmclpahganaaGreatTab1
import Derived.Test.YtbgjmclpahganaaGreatCode1
namespace Go.Proofs.YtbgjmclpahganaaGreat.Eng
set_option linter.unusedSimpArgs false
set_option linter.unusedVariables false

def ferr (l : List Rdg) (i : Nat) : Int := flErr (rat l i).1 (rat l i).2.1 (rat l i).2.2
def listErr (l : List Rdg) : Int := if 200 < l.length then 8 else (fstIx (ferr l) l.length 0).2
theorem listErr_eq {l : List Rdg} : firstNZ [if decide ((200 : Int) < l.length) then 8 else 0, (fstIx (ferr l) l.length 0).2] = listErr l := by
  unfold listErr
  by_cases c1 : 200 < l.length
  · have : (200 : Int) < l.length := by omega
    simp [firstNZ, c1, this]
  · have c1' : ¬ (200 : Int) < l.length := by omega
    by_cases c2 : (fstIx (ferr l) l.length 0).2 = 0
    · simp only [firstNZ, c1, c1', c2, decide_false, Bool.false_eq_true, if_false, if_true, ne_eq, not_true_eq_false]
    · simp only [firstNZ, c1, c1', c2, decide_false, Bool.false_eq_true, if_false, if_true, ne_eq, not_false_eq_true]
theorem list_ok {l : List Rdg} (h : listErr l = 0) : l.length ≤ 200 ∧ ∀ i, i < l.length → ferr l i = 0 := by
  unfold listErr at h
  split at h
  · omega
  · exact ⟨by omega, fun i hi => fstIx_all _ _ h i (by omega) (by omega)⟩

/-- A step, and what is there behind so many. -/
def seA (a b : List Kn) (r : Int) (s : Kn) (f : Rdg) : Int := stepE a b r s.1 s.2 f.1 f.2.1 f.2.2
def stA (a b : List Kn) (r : Int) (s : Kn) (f : Rdg) : List AVal := stepS a b r s.1 s.2 f.1 f.2.1 f.2.2 ++ stepL a b r s.1 s.2 f.1 f.2.1 f.2.2
def nx (a b : List Kn) (r : Int) (s : Kn) (f : Rdg) : Kn := (capV a (upV a r s.1 f.1 f.2.2), capV b (upV b r s.2 f.2.1 (-f.2.2)))
def evN (a b : List Kn) (r : Int) (s : Kn) : Int := evR a s.1 r + evR b s.2 r
def spN (a b : List Kn) (r : Int) (s : Kn) (f : Rdg) : Int := spV a (upV a r s.1 f.1 f.2.2) + spV b (upV b r s.2 f.2.1 (-f.2.2))
theorem stA_ok {a b : List Kn} {r : Int} {s : Kn} {f : Rdg} (h : seA a b r s f = 0) : stA a b r s f = [.int .i64 (nx a b r s f).1, .int .i64 (nx a b r s f).2, .int .i64 (evN a b r s), .int .i64 (spN a b r s f)] := by
  unfold seA at h
  simp [stA, stepS, stepL, h, nx, evN, spN]
theorem stA_no {a b : List Kn} {r : Int} {s : Kn} {f : Rdg} (h : seA a b r s f ≠ 0) : stA a b r s f = [.int .i64 0, .int .i64 0, .int .i64 0, .int .i64 0] := by
  unfold seA at h
  simp [stA, stepS, stepL, h]
theorem stA_len (a b : List Kn) (r : Int) (s : Kn) (f : Rdg) : (stA a b r s f).length = 4 := by
  by_cases h : seA a b r s f = 0
  · rw [stA_ok h]; rfl
  · rw [stA_no h]; rfl
def stN (a b : List Kn) (r : Int) (s : Kn) (l : List Rdg) : Nat → Kn
  | 0 => s
  | i + 1 => nx a b r (stN a b r s l i) (rat l i)
theorem seA_cases (a b : List Kn) (r : Int) (s : Kn) (f : Rdg) : seA a b r s f = 0 ∨ seA a b r s f = 22 := by
  unfold seA stepE; split
  · exact .inr rfl
  · split
    · exact .inr rfl
    · exact .inl rfl
theorem nx_vol {a b : List Kn} (ta : Tab a) (tb : Tab b) {r : Int} {s : Kn} {f : Rdg} (h : seA a b r s f = 0) : isVol a (nx a b r s f).1 = true ∧ isVol b (nx a b r s f).2 = true := by
  unfold seA stepE at h
  split at h
  · omega
  · split at h
    · omega
    · have a2 := ta.two; have b2 := tb.two
      have q1 := (mono_lev ta (i := 0) (j := a.length - 1) (by omega) (by omega)).2
      have q2 := (mono_lev tb (i := 0) (j := b.length - 1) (by omega) (by omega)).2
      rw [isVol_iff, isVol_iff]
      unfold nx capV
      constructor <;> (split <;> omega)

/-- How the loop over the steps ends. -/
def R129 (X : FuncId → Option XFunc) (a b : List Kn) (r : Int) (s : Kn) (l : List Rdg) (J E : Nat → Store → Prop) (tm : List AVal) (σ : Store) (i : Nat) : Prop :=
    (∃ tm' σ', Run X (.code (.loop xf81l0)) tm σ = some (.exit 0, tm', σ') ∧ J l.length σ' ∧ ∀ j, i ≤ j → j < l.length → seA a b r (stN a b r s l j) (rat l j) = 0) ∨
    (∃ tm' σ' n, Run X (.code (.loop xf81l0)) tm σ = some (.ret, tm', σ') ∧ i ≤ n ∧ n < l.length ∧ E n σ' ∧ ∀ j, i ≤ j → j < n → seA a b r (stN a b r s l j) (rat l j) = 0)
section
variable {X : FuncId → Option XFunc} (hX : RunCode X)
include hX
theorem t128 {l : List Rdg} (i : Nat) (hi : i < l.length) (σ : Store) : Run X (.call 80) [.int .i64 i, .iptr [.list 3 (rds l) none] 0] σ = some (.ret, [.int .i64 (ferr l i)], σ) := by
  have t1 := t84 hX.pair (rat l i).1 (rat l i).2.1 (rat l i).2.2
  have q1 := rds_getElem? (l := l) (i := i) hi
  simp only [Rdg.enc] at q1
  refine call2 (v := .int .i64 (ferr l i)) hX.h80 rfl (by simp [AVal.strip, stripL, AVal.free, freeL, rds_strip, rds_free]) (by decide) (fun tm hl h0 h1 => ?_) rfl σ
  simp only [AVal.strip, stripL, rds_strip] at h0 h1
  replace hl : tm.length = 9 := hl
  unfold Gives
  simp [xf80, hl, h0, h1, hi, q1, t1, ferr, Rdg.enc]
theorem errs91 {l : List Rdg} {w : AVal} (h : RL l w) (hl1 : l.length ≤ 1000000) (tok : Option Nat) (σ : Store) :
    Run X (.call 77) [.list 1 [.fn 113 [] [.iptr [.bool (decide ((200 : Int) < l.length))] 0, .iptr [.int .i64 8] 0], .fn 114 [] [.iptr [.int .i64 l.length] 0, .iptr [.fn 80 [] [.iptr [w] 0]] 0]] tok] σ = some (.ret, [.int .i64 (listErr l)], σ) := by
  have hS := hX.pair.tab.sea
  rw [← listErr_eq]
  refine sea58 hS ⟨rfl, by simp [freeL, AVal.free, h.free], fun i h1 h2 => ?_⟩ (by simp) tok σ
  have hi : i = 0 ∨ i = 1 := by simp at h1; omega
  rcases hi with rfl | rfl
  · exact ⟨_, _, _, rfl, fun σ => sea106 hS _ 8 σ⟩
  · refine ⟨_, _, _, rfl, fun σ => sea130 hS (g := 80) (a := []) (b := [.iptr [w] 0]) (e := ferr l) (n := l.length) (fun i hi σ => ?_) (by omega) rfl (by simp [freeL, AVal.free, h.free]) σ⟩
    have := h.list (by omega)
    subst this
    exact t128 hX i hi σ
theorem t91 {l : List Rdg} {w : AVal} (h : RL l w) (hl1 : l.length ≤ 1000000) (σ : Store) : Run X (.call 45) [w] σ = some (.ret, [.int .i64 (listErr l)], σ) := by
  have hT := hX.pair.tab
  have h59 := sea59 hT.sea
  have s1 := sea93 hT.sea (g := 80) (a := []) (b := [.iptr [w] 0]) (n := l.length) rfl (by simp [freeL, AVal.free, h.free])
  have e91 := errs91 hX h hl1
  refine call1 (v := .int .i64 (listErr l)) hX.h45 (by rw [h.strip]; exact h.free) (by decide) (fun tm hl h0 => ?_) rfl σ
  rw [h.strip] at h0
  replace hl : tm.length = 13 := hl
  unfold Gives
  rcases h with ⟨rfl, rfl⟩ | rfl
  · simp at s1 e91
    simp [xf45, xresult, xrets, hl, h0, h59, s1, e91, Store.empty, Store.new, Store.put, Store.get, look, putL, setR, Store.only, Store.merge, touch, wrote, upTo, isIn, okRec, hits, capsOf, xcaps, stripL, AVal.strip, freeL, AVal.free, fillR, chunks, mkV, List.filter]
  · simp [xf45, xresult, xrets, hl, h0, h59, s1, e91, rds_strip, rds_free, Store.empty, Store.new, Store.put, Store.get, look, putL, setR, Store.only, Store.merge, touch, wrote, upTo, isIn, okRec, hits, capsOf, xcaps, stripL, AVal.strip, freeL, AVal.free, fillR, chunks, mkV, List.filter]
theorem t92 {u v : AVal} {a b : List Kn} (p : PV a b u v) (r s1 s2 : Int) {l : List Rdg} {w : AVal} (h : RL l w) (σ : Store) : Run X (.call 46) [.agg [u, v, .int .i64 r, .int .i64 s1, .int .i64 s2], w] σ = some (.ret, [.fn 81 [] [.iptr [u, v, .int .i64 r, .int .i64 s1, .int .i64 s2] 0, .iptr [w] 0]], σ) := by
  have ha := p.ka; have hb := p.kb
  have hs : (AVal.fn 81 [] [.iptr [u, v, .int .i64 r, .int .i64 s1, .int .i64 s2] 0, .iptr [w] 0]).strip = .fn 81 [] [.iptr [u, v, .int .i64 r, .int .i64 s1, .int .i64 s2] 0, .iptr [w] 0] := by simp [AVal.strip, stripL, ha.strip, hb.strip, h.strip]
  have := call2 (X := X) (a := .agg [u, v, .int .i64 r, .int .i64 s1, .int .i64 s2]) (b := w) (v := .fn 81 [] [.iptr [u, v, .int .i64 r, .int .i64 s1, .int .i64 s2] 0, .iptr [w] 0]) hX.h46 (by simp [AVal.strip, stripL, AVal.free, freeL, ha.strip, ha.free, hb.strip, hb.free]) (by rw [h.strip]; exact h.free) (by decide) (fun tm hl a0 a1 => ?_) (by rw [hs]; simp [AVal.free, freeL, ha.free, hb.free, h.free]) σ
  · rwa [hs] at this
  simp only [AVal.strip, stripL, ha.strip, hb.strip] at a0
  rw [h.strip] at a1
  replace hl : tm.length = 6 := hl
  unfold Gives
  rcases h with ⟨rfl, rfl⟩ | rfl <;> simp [xf46, hl, a0, a1, ha.one, ha.strip, ha.free, hb.one, hb.strip, hb.free, rds_strip, rds_free, Store.empty, Store.new, Store.put, Store.get, look, putL, setR, Store.only, Store.merge, touch, wrote, upTo, isIn, okRec, hits, capsOf, xcaps, stripL, AVal.strip, freeL, AVal.free, fillR, chunks, mkV, List.filter]

set_option maxHeartbeats 2000000 in
theorem loop129 {a b : List Kn} {u v : AVal} (p : PV a b u v) (ta : Tab a) (tb : Tab b) {r : Int} (r0 : 0 ≤ r) (r1 : r ≤ 1000) {l : List Rdg} (hf : ∀ i, i < l.length → ferr l i = 0) (hl1 : l.length ≤ 1000000) {s1 s2 : Int} {s : Kn} {m q : Nat} {J : Nat → Store → Prop} {E : Nat → Store → Prop}
    (hst : ∀ i σ τ, J i σ → (∀ k, k ≠ q → k < σ.next → τ.get k = σ.get k) → σ.next ≤ τ.next → J i τ)
    (hrd : ∀ i σ, i < l.length → J i σ → q < σ.next - 1 → (∃ cs, σ.get (σ.next - 1) = some (.cells cs)) → ∃ bo σ', Run X (.round m) [.agg (stA a b r (stN a b r s l i) (rat l i)), .int .i64 (seA a b r (stN a b r s l i) (rat l i))] σ = some (.ret, [.bool bo], σ') ∧
      (bo = true → seA a b r (stN a b r s l i) (rat l i) = 0 → J (i + 1) σ' ∧ σ'.get q = σ.get q ∧ σ'.get (σ.next - 1) = σ.get (σ.next - 1) ∧ σ.next ≤ σ'.next) ∧ ((bo = false ∨ seA a b r (stN a b r s l i) (rat l i) ≠ 0) → E i σ')) :
    ∀ (k i : Nat), i + k = l.length → ∀ (tm : List AVal) (σ : Store), tm.length = 37 → XOpd.eval tm (.t 0) = .yld m → XOpd.eval tm (.t 1) = .iptr [u, v, .int .i64 r, .int .i64 s1, .int .i64 s2] 0 → XOpd.eval tm (.t 4) = .ptr q 0 → (k = 0 ∨ XOpd.eval tm (.t 11) = .list 3 (rds l) none) → XOpd.eval tm (.t 12) = .int .i64 l.length → XOpd.eval tm (.t 13) = .int .i64 i →
    σ.get q = some (.cells [.int .i64 (stN a b r s l i).1, .int .i64 (stN a b r s l i).2]) → q < σ.next → J i σ → isVol a (stN a b r s l i).1 = true → isVol b (stN a b r s l i).2 = true →
    R129 X a b r s l J E tm σ i
  | 0, i, hk, tm, σ, hl, h0, h1, h4, h11, h12, h13, gq, hq, hJ, v1, v2 => by
    have e : i = l.length := by omega
    subst e
    unfold R129
    rw [Run_loop]
    refine .inl ⟨putT tm (some 14) (.bool false), σ, ?_, hJ, fun j h1 h2 => by omega⟩
    simp [xf81l0, hl, h12, h13]
  | k + 1, i, hk, tm, σ, hl, h0, h1, h4, h11, h12, h13, gq, hq, hJ, v1, v2 => by
    have hi : i < l.length := by omega
    have h11 : XOpd.eval tm (.t 11) = .list 3 (rds l) none := h11.resolve_left (by omega)
    have hw : IntKind.i64.wrap ((i : Int) + 1) = ((i + 1 : Nat) : Int) := by rw [wrap_i64] <;> omega
    have q1 := rds_getElem? (l := l) (i := i) hi
    have t85 := t85 hX.pair p ta tb r0 r1 v1 v2 (hf i hi)
    have n1 : ¬ q = σ.next := by omega
    have n2 : ¬ σ.next = q := by omega
    have n3 : ¬ σ.next + 1 = q := by omega
    have n4 : ¬ q = σ.next + 1 := by omega
    obtain ⟨σx, hσx⟩ : ∃ σx, ((((σ.new (.cells [.int .i64 0, .int .i64 0, .int .i64 0])).put σ.next (.cells [.int .i64 (rat l i).1, .int .i64 (rat l i).2.1, .int .i64 (rat l i).2.2])).new (.cells [.int .i64 0, .int .i64 0, .int .i64 0, .int .i64 0])).put (σ.next + 1) (.cells (stA a b r (stN a b r s l i) (rat l i)))) = σx := ⟨_, rfl⟩
    have gx : ∀ k, k ≠ q → k < σ.next → σx.get k = σ.get k := fun k hk hk2 => by
      rw [← hσx, Store.get_put, Mem.put_ne _ (by omega), Store.get_new, Mem.put_ne _ (by simp [Store.new, Store.put]; omega), Store.get_put, Mem.put_ne _ (by omega), Store.get_new, Mem.put_ne _ (by omega)]
    have nxt : σx.next = σ.next + 2 := by rw [← hσx]; simp [Store.new, Store.put]
    have gxq : σx.get q = σ.get q := by
      rw [← hσx, Store.get_put, Mem.put_ne _ (by omega), Store.get_new, Mem.put_ne _ (by simp [Store.new, Store.put]; omega), Store.get_put, Mem.put_ne _ (by omega), Store.get_new, Mem.put_ne _ (by omega)]
    have gx7 : σx.get (σ.next + 1) = some (.cells (stA a b r (stN a b r s l i) (rat l i))) := by
      rw [← hσx, Store.get_put, Mem.put_self]
    obtain ⟨bo, σ', e1, e2, e3⟩ := hrd i σx hi (hst i σ σx hJ gx (by omega)) (by omega) ⟨_, by rw [show σx.next - 1 = σ.next + 1 by omega]; exact gx7⟩
    rw [show σx.next - 1 = σ.next + 1 by omega, gxq, gx7] at e2
    have hlen := stA_len a b r (stN a b r s l i) (rat l i)
    have hone : (stA a b r (stN a b r s l i) (rat l i)).all AVal.one = true := by
      by_cases h : seA a b r (stN a b r s l i) (rat l i) = 0
      · rw [stA_ok h]; rfl
      · rw [stA_no h]; rfl
    have hset : setR [.int .i64 0, .int .i64 0, .int .i64 0, .int .i64 0] 0 (stA a b r (stN a b r s l i) (rat l i)) = stA a b r (stN a b r s l i) (rat l i) := by
      by_cases h : seA a b r (stN a b r s l i) (rat l i) = 0
      · rw [stA_ok h]; rfl
      · rw [stA_no h]; rfl
    have htake : (stA a b r (stN a b r s l i) (rat l i)).take 4 = stA a b r (stN a b r s l i) (rat l i) := List.take_of_length_le (by omega)
    change ∀ σ, Run X (.call 71) _ σ = some (.ret, [.tup [.agg (stA a b r (stN a b r s l i) (rat l i)), .int .i64 (seA a b r (stN a b r s l i) (rat l i))]], σ) at t85
    simp only [Rdg.enc] at q1
    have ih := loop129 p ta tb r0 r1 hf hl1 (s1 := s1) (s2 := s2) hst hrd k (i + 1) (by omega)
    by_cases hz : seA a b r (stN a b r s l i) (rat l i) = 0
    · rw [hz] at e1 t85
      cases bo with
      | true =>
        obtain ⟨hJ', gq', g7', hnx⟩ := e2 rfl hz
        obtain ⟨w1, w2⟩ := nx_vol ta tb hz
        have hsa := stA_ok hz
        rw [hsa] at g7' gx7 t85 e1 hσx
        rw [gq] at gq'
        have key : Run X (.code xf81l0) tm σ = some (.normal, outT X xf81l0 tm σ, (σ'.put q (.cells [.int .i64 (nx a b r (stN a b r s l i) (rat l i)).1, .int .i64 (nx a b r (stN a b r s l i) (rat l i)).2]))) ∧ (outT X xf81l0 tm σ).length = 37 ∧ XOpd.eval (outT X xf81l0 tm σ) (.t 0) = .yld m ∧ XOpd.eval (outT X xf81l0 tm σ) (.t 1) = .iptr [u, v, .int .i64 r, .int .i64 s1, .int .i64 s2] 0 ∧ XOpd.eval (outT X xf81l0 tm σ) (.t 4) = .ptr q 0 ∧ XOpd.eval (outT X xf81l0 tm σ) (.t 11) = .list 3 (rds l) none ∧ XOpd.eval (outT X xf81l0 tm σ) (.t 12) = .int .i64 l.length ∧ XOpd.eval (outT X xf81l0 tm σ) (.t 13) = .int .i64 ((i + 1 : Nat) : Int) := by
          have : Ends (Run X (.code xf81l0) tm σ) .normal fun tm' σ2 => σ2 = (σ'.put q (.cells [.int .i64 (nx a b r (stN a b r s l i) (rat l i)).1, .int .i64 (nx a b r (stN a b r s l i) (rat l i)).2])) ∧ tm'.length = 37 ∧ XOpd.eval tm' (.t 0) = .yld m ∧ XOpd.eval tm' (.t 1) = .iptr [u, v, .int .i64 r, .int .i64 s1, .int .i64 s2] 0 ∧ XOpd.eval tm' (.t 4) = .ptr q 0 ∧ XOpd.eval tm' (.t 11) = .list 3 (rds l) none ∧ XOpd.eval tm' (.t 12) = .int .i64 l.length ∧ XOpd.eval tm' (.t 13) = .int .i64 ((i + 1 : Nat) : Int) := by
            simp [xf81l0, hl, h0, h1, h4, h11, h12, h13, gq, hi, q1, hw, n1, n2, n3, n4, t85, e1, hσx, gx7, gq', g7', Rdg.enc, put_next, new_next, Store.get_new, Store.get_put, put_get, setR, only_get, merge_get', only_next, merge_next, upTo_self, upTo_one, merge_only, touch, wrote, isIn, okRec, hits, capsOf, xcaps, stripL, AVal.strip, freeL, AVal.free, fillR, chunks, mkV]
          obtain ⟨o1, o2, o3⟩ := out_of this
          rw [o2] at o1
          exact ⟨o1, o3⟩
        obtain ⟨key, klen, k1, k2, k3, k4, k5, k6⟩ := key
        have gq2 : (σ'.put q (.cells [.int .i64 (nx a b r (stN a b r s l i) (rat l i)).1, .int .i64 (nx a b r (stN a b r s l i) (rat l i)).2])).get q = some (.cells [.int .i64 (stN a b r s l (i + 1)).1, .int .i64 (stN a b r s l (i + 1)).2]) := by
          rw [Store.get_put, Mem.put_self]; rfl
        have hJ2 := hst (i + 1) σ' (σ'.put q (.cells [.int .i64 (nx a b r (stN a b r s l i) (rat l i)).1, .int .i64 (nx a b r (stN a b r s l i) (rat l i)).2])) hJ' (fun k h1 h2 => by rw [Store.get_put, Mem.put_ne _ (Ne.symm h1)]) (Nat.le_refl _)
        have this := ih (outT X xf81l0 tm σ) (σ'.put q (.cells [.int .i64 (nx a b r (stN a b r s l i) (rat l i)).1, .int .i64 (nx a b r (stN a b r s l i) (rat l i)).2])) klen k1 k2 k3 (.inr k4) k5 k6 gq2 (by show q < σ'.next; omega) hJ2 w1 w2
        have hrun : Run X (.code (.loop xf81l0)) tm σ = Run X (.code (.loop xf81l0)) (outT X xf81l0 tm σ) (σ'.put q (.cells [.int .i64 (nx a b r (stN a b r s l i) (rat l i)).1, .int .i64 (nx a b r (stN a b r s l i) (rat l i)).2])) := by
          rw [Run_loop, key, thenC_normal]
        unfold R129 at this ⊢
        rw [hrun]
        rcases this with ⟨tm2, σ2, p1, p2, p3⟩ | ⟨tm2, σ2, n, p1, p2, p3, p4, p5⟩
        · refine .inl ⟨tm2, σ2, p1, p2, fun j h1 h2 => ?_⟩
          by_cases hj : j = i
          · subst hj; exact hz
          · exact p3 j (by omega) h2
        · refine .inr ⟨tm2, σ2, n, p1, by omega, p3, p4, fun j h1 h2 => ?_⟩
          by_cases hj : j = i
          · subst hj; exact hz
          · exact p5 j (by omega) h2
      | false =>
        have hE := e3 (.inl rfl)
        have hsa := stA_ok hz
        rw [hsa] at gx7 t85 e1 hσx
        have this : Ends (Run X (.code xf81l0) tm σ) .ret fun tm' σ2 => σ2 = σ' := by
          simp [xf81l0, hl, h0, h1, h4, h11, h12, h13, gq, hi, q1, hw, n1, n2, n3, n4, t85, e1, hσx, gx7, Rdg.enc, put_next, new_next, Store.get_new, Store.get_put, put_get, setR, only_get, merge_get', only_next, merge_next, upTo_self, upTo_one, merge_only, touch, wrote, isIn, okRec, hits, capsOf, xcaps, stripL, AVal.strip, freeL, AVal.free, fillR, chunks, mkV]
        obtain ⟨o1, o2⟩ := out_of this
        rw [o2] at o1
        refine .inr ⟨_, σ', i, by rw [Run_loop, o1]; rfl, Nat.le_refl _, hi, hE, fun j h1 h2 => by omega⟩
    · have h22 := (seA_cases a b r (stN a b r s l i) (rat l i)).resolve_left hz
      have hE := e3 (.inr hz)
      have hsa := stA_no hz
      rw [hsa] at gx7 t85 e1 hσx
      rw [h22] at t85 e1
      have this : Ends (Run X (.code xf81l0) tm σ) .ret fun tm' σ2 => σ2 = σ' := by
        cases bo <;> simp [xf81l0, hl, h0, h1, h4, h11, h12, h13, gq, hi, q1, hw, n1, n2, n3, n4, t85, e1, hσx, gx7, Rdg.enc, put_next, new_next, Store.get_new, Store.get_put, put_get, setR, only_get, merge_get', only_next, merge_next, upTo_self, upTo_one, merge_only, touch, wrote, isIn, okRec, hits, capsOf, xcaps, stripL, AVal.strip, freeL, AVal.free, fillR, chunks, mkV]
      obtain ⟨o1, o2⟩ := out_of this
      rw [o2] at o1
      refine .inr ⟨_, σ', i, by rw [Run_loop, o1]; rfl, Nat.le_refl _, hi, hE, fun j h1 h2 => by omega⟩
end
end Go.Proofs.YtbgjmclpahganaaGreat.Eng

/-
  RUNS, B: the run.
-/
namespace Go.Proofs.YtbgjmclpahganaaGreat.Eng
set_option linter.unusedSimpArgs false
set_option linter.unusedVariables false
def XCode.fst : XCode → XCode
  | .seq a _ => a
  | c => c
def XCode.snd : XCode → XCode
  | .seq _ b => b
  | c => c

section
variable {X : FuncId → Option XFunc} (hX : RunCode X)
include hX
theorem t129 {a b : List Kn} {u v : AVal} (p : PV a b u v) (ta : Tab a) (tb : Tab b) {r : Int} (r0 : 0 ≤ r) (r1 : r ≤ 1000) {l : List Rdg} {w : AVal} (hw : RL l w) (hf : ∀ i, i < l.length → ferr l i = 0) (hl1 : l.length ≤ 1000000) {s : Kn} (v1 : isVol a s.1 = true) (v2 : isVol b s.2 = true) {m : Nat} {σ0 : Store} {J E : Nat → Store → Prop} (hJ0 : J 0 σ0)
    (hst : ∀ i σ τ, J i σ → (∀ k, k ≠ σ0.next → k < σ.next → τ.get k = σ.get k) → σ.next ≤ τ.next → J i τ)
    (hrd : ∀ i σ, i < l.length → J i σ → σ0.next < σ.next - 1 → (∃ cs, σ.get (σ.next - 1) = some (.cells cs)) → ∃ bo σ', Run X (.round m) [.agg (stA a b r (stN a b r s l i) (rat l i)), .int .i64 (seA a b r (stN a b r s l i) (rat l i))] σ = some (.ret, [.bool bo], σ') ∧
      (bo = true → seA a b r (stN a b r s l i) (rat l i) = 0 → J (i + 1) σ' ∧ σ'.get σ0.next = σ.get σ0.next ∧ σ'.get (σ.next - 1) = σ.get (σ.next - 1) ∧ σ.next ≤ σ'.next) ∧ ((bo = false ∨ seA a b r (stN a b r s l i) (rat l i) ≠ 0) → E i σ')) :
    ∃ τ, Run X (.call 81) [.yld m, .iptr [u, v, .int .i64 r, .int .i64 s.1, .int .i64 s.2] 0, .iptr [w] 0] σ0 = some (.ret, [.tup []], gc σ0 τ (.tup [])) ∧
      ((J l.length τ ∧ ∀ j, j < l.length → seA a b r (stN a b r s l j) (rat l j) = 0) ∨ ∃ n, n < l.length ∧ E n τ ∧ ∀ j, j < n → seA a b r (stN a b r s l j) (rat l j) = 0) := by
  have e0 : xf81.body = .seq xf81.body.fst (.seq xf81.body.snd.fst (.block 0 (.loop xf81l0))) := rfl
  have eA : Ends (Run X (.code xf81.body.fst) (frame [.yld m, .iptr [u, v, .int .i64 r, .int .i64 s.1, .int .i64 s.2] 0, .iptr [w] 0] 37) σ0) .normal fun tm σ => tm.length = 37 ∧ XOpd.eval tm (.t 0) = .yld m ∧ XOpd.eval tm (.t 1) = .iptr [u, v, .int .i64 r, .int .i64 s.1, .int .i64 s.2] 0 ∧ XOpd.eval tm (.t 2) = .iptr [w] 0 ∧ XOpd.eval tm (.t 4) = .ptr σ0.next 0 ∧
      σ = (σ0.new (.cells [.int .i64 0, .int .i64 0])).put σ0.next (.cells [.int .i64 s.1, .int .i64 s.2]) := by
    simp [xf81, XCode.fst, put_next, new_next, Store.get_new, Store.get_put, put_get, setR, only_get, merge_get', only_next, merge_next, upTo_self, upTo_one, merge_only, touch, wrote, isIn, okRec, hits, capsOf, xcaps, stripL, AVal.strip, freeL, AVal.free, fillR, chunks, mkV]
  obtain ⟨o1, o2, o3, o4, o5, o6, o7⟩ := out_of eA
  generalize outT X xf81.body.fst (frame [.yld m, .iptr [u, v, .int .i64 r, .int .i64 s.1, .int .i64 s.2] 0, .iptr [w] 0] 37) σ0 = tm1 at *
  generalize outS X xf81.body.fst (frame [.yld m, .iptr [u, v, .int .i64 r, .int .i64 s.1, .int .i64 s.2] 0, .iptr [w] 0] 37) σ0 = σ1 at *
  have eB : Ends (Run X (.code xf81.body.snd.fst) tm1 σ1) .normal fun tm σ => tm.length = 37 ∧ XOpd.eval tm (.t 0) = .yld m ∧ XOpd.eval tm (.t 1) = .iptr [u, v, .int .i64 r, .int .i64 s.1, .int .i64 s.2] 0 ∧ XOpd.eval tm (.t 4) = .ptr σ0.next 0 ∧ XOpd.eval tm (.t 11) = w ∧ XOpd.eval tm (.t 12) = .int .i64 l.length ∧ XOpd.eval tm (.t 13) = .int .i64 0 ∧ σ = σ1 := by
    simp [xf81, XCode.fst, XCode.snd, o2, o3, o4, o5, o6, hw.xlen, put_next, new_next, Store.get_new, Store.get_put, put_get, setR, only_get, merge_get', only_next, merge_next, upTo_self, upTo_one, merge_only, touch, wrote, isIn, okRec, hits, capsOf, xcaps, stripL, AVal.strip, freeL, AVal.free, fillR, chunks, mkV]
  obtain ⟨q1, q2, q3, q4, q5, q6, q7, q8, q9⟩ := out_of eB
  generalize outT X xf81.body.snd.fst tm1 σ1 = tm2 at *
  generalize outS X xf81.body.snd.fst tm1 σ1 = σ2 at *
  subst q9
  have nxt : σ2.next = σ0.next + 1 := by rw [o7]; simp [Store.new, Store.put]
  have far : ∀ k, k ≠ σ0.next → σ2.get k = σ0.get k := fun k hk => by
    rw [o7, Store.get_put, Mem.put_ne _ (Ne.symm hk), Store.get_new, Mem.put_ne _ (Ne.symm hk)]
  have gq : σ2.get σ0.next = some (.cells [.int .i64 s.1, .int .i64 s.2]) := by rw [o7, Store.get_put, Mem.put_self]
  have hR := loop129 hX p ta tb r0 r1 hf hl1 (s1 := s.1) (s2 := s.2) (s := s) (m := m) (q := σ0.next) hst hrd l.length 0 (by omega) tm2 σ2 q2 q3 q4 q5 (by
    rcases hw with ⟨_, rfl⟩ | rfl
    · exact .inl rfl
    · exact .inr q6) q7 (by simpa using q8) gq (by omega) (hst 0 σ0 σ2 hJ0 (fun k h1 h2 => far k h1) (by omega)) v1 v2
  have hnp : freeL (stripL [.yld m, .iptr [u, v, .int .i64 r, .int .i64 s.1, .int .i64 s.2] 0, .iptr [w] 0]) = false := by simp [stripL, AVal.strip, freeL, AVal.free]
  rw [call_np hX.h81 hnp]
  show ∃ τ, npC σ0 [] (Run X (.code xf81.body) (frame [.yld m, .iptr [u, v, .int .i64 r, .int .i64 s.1, .int .i64 s.2] 0, .iptr [w] 0] 37) σ0) = _ ∧ _
  rw [e0, Run_seq, o1, thenC_normal, Run_seq, q1, thenC_normal, Run_block]
  rcases hR with ⟨tm3, σ3, p1, p2, p3⟩ | ⟨tm3, σ3, n, p1, p2, p3, p4, p5⟩
  · refine ⟨σ3, ?_, .inl ⟨p2, fun j hj => p3 j (by omega) hj⟩⟩
    rw [p1, blockC_exit]; rfl
  · refine ⟨σ3, ?_, .inr ⟨n, p3, p4, fun j hj => p5 j (by omega) hj⟩⟩
    rw [p1, blockC_ret]; rfl
end
end Go.Proofs.YtbgjmclpahganaaGreat.Eng

/-
  RUNS, C: a round of a run.
-/
namespace Go.Proofs.YtbgjmclpahganaaGreat.Eng
set_option linter.unusedSimpArgs false
set_option linter.unusedVariables false
def sts (a b : List Kn) (r : Int) (s : Kn) (l : List Rdg) : Nat → List Kn
  | 0 => []
  | i + 1 => sts a b r s l i ++ [stN a b r s l (i + 1)]
def evS (a b : List Kn) (r : Int) (s : Kn) (l : List Rdg) : Nat → Int
  | 0 => 0
  | i + 1 => evS a b r s l i + evN a b r (stN a b r s l i)
def spS (a b : List Kn) (r : Int) (s : Kn) (l : List Rdg) : Nat → Int
  | 0 => 0
  | i + 1 => spS a b r s l i + spN a b r (stN a b r s l i) (rat l i)
@[simp] theorem sts_len (a b : List Kn) (r : Int) (s : Kn) (l : List Rdg) : ∀ i, (sts a b r s l i).length = i
  | 0 => rfl
  | i + 1 => by simp [sts, sts_len a b r s l i]
/-- Pairs of numbers in a list that grows, of a type. -/
def OutE (e : Nat) (σ : Store) (m0 : Nat) (xs : List Kn) (v : AVal) : Prop := (v = .nils ∧ xs = []) ∨ ∃ j, m0 ≤ j ∧ j < σ.next ∧ v = .list 2 (kns xs) (some j) ∧ σ.get j = some (.tok e 2 xs.length)
theorem OutE.strip {e : Nat} {σ : Store} {m0 : Nat} {xs : List Kn} {v : AVal} (h : OutE e σ m0 xs v) : KL xs v.strip := by
  rcases h with ⟨rfl, rfl⟩ | ⟨j, _, _, rfl, _⟩
  · exact .inl ⟨rfl, rfl⟩
  · exact .inr (by simp [AVal.strip, kns_strip])
theorem OutE.far {e : Nat} {σ τ : Store} {m0 : Nat} {xs : List Kn} {v : AVal} (h : OutE e σ m0 xs v) (hg : ∀ m, m0 ≤ m → m < σ.next → τ.get m = σ.get m) (hn : σ.next ≤ τ.next) : OutE e τ m0 xs v := by
  rcases h with h | ⟨j, h1, h2, h3, h4⟩
  · exact .inl h
  · exact .inr ⟨j, h1, by omega, h3, by rw [hg j h1 h2]; exact h4⟩
/-- The loop's frame. -/
structure Fr41 (tm : List AVal) : Prop where
  len : tm.length = 63
  t6 : XOpd.eval tm (.t 6) = .ptr 2 0
  t7 : XOpd.eval tm (.t 7) = .ptr 3 0
  t8 : XOpd.eval tm (.t 8) = .ptr 4 0
  t12 : XOpd.eval tm (.t 12) = .ptr 6 0
  t13 : XOpd.eval tm (.t 13) = .ptr 7 0
structure J41 (a b : List Kn) (r : Int) (s : Kn) (l : List Rdg) (tmR : List AVal) (i : Nat) (σ : Store) : Prop where
  nx : 9 ≤ σ.next
  ok : ∀ j, j < i → seA a b r (stN a b r s l j) (rat l j) = 0
  g2 : σ.get 2 = some (.cells [.nils])
  g3 : σ.get 3 = some (.cells [.int .i64 0, .int .i64 0])
  g4 : σ.get 4 = some (.cells [.int .i64 0])
  g6 : ∃ v, σ.get 6 = some (.cells [v]) ∧ OutE 28 σ 10 (sts a b r s l i) v
  g7 : σ.get 7 = some (.cells [.int .i64 (evS a b r s l i), .int .i64 (spS a b r s l i)])
  g8 : σ.get 8 = some (.oth (.loop .ready tmR [35, 36] xf11a0 xf11b0))
structure E41 (tmR : List AVal) (σ : Store) : Prop where
  g2 : σ.get 2 = some (.cells [.nils])
  g3 : σ.get 3 = some (.cells [.int .i64 0, .int .i64 0])
  g4 : σ.get 4 = some (.cells [.int .i64 22])
  g8 : σ.get 8 = some (.oth (.loop (.done .ret) tmR [35, 36] xf11a0 xf11b0))
theorem J41.far {a b : List Kn} {r : Int} {s : Kn} {l : List Rdg} {tmR : List AVal} {i : Nat} {σ τ : Store} (h : J41 a b r s l tmR i σ) (hg : ∀ k, k ≠ 9 → k < σ.next → τ.get k = σ.get k) (hn : σ.next ≤ τ.next) : J41 a b r s l tmR i τ := by
  have := h.nx
  refine ⟨by omega, h.ok, by rw [hg 2 (by omega) (by omega)]; exact h.g2, by rw [hg 3 (by omega) (by omega)]; exact h.g3, by rw [hg 4 (by omega) (by omega)]; exact h.g4, ?_, by rw [hg 7 (by omega) (by omega)]; exact h.g7, by rw [hg 8 (by omega) (by omega)]; exact h.g8⟩
  obtain ⟨v, h1, h2⟩ := h.g6
  exact ⟨v, by rw [hg 6 (by omega) (by omega)]; exact h1, h2.far (fun m h3 h4 => hg m (by omega) h4) hn⟩

section
variable {X : FuncId → Option XFunc} (hX : RunCode X)
include hX
set_option maxHeartbeats 4000000 in
theorem rnd41 {a b : List Kn} {r : Int} {s : Kn} {l : List Rdg} {tmR : List AVal} (fr : Fr41 tmR) {i : Nat} (hi : i < l.length) (hl : l.length ≤ 1000000) (hev : IntKind.i64.wrap (evS a b r s l (i + 1)) = evS a b r s l (i + 1)) (hsp : IntKind.i64.wrap (spS a b r s l (i + 1)) = spS a b r s l (i + 1)) {σ : Store} (hJ : J41 a b r s l tmR i σ) (hq : 9 < σ.next - 1) (hy : ∃ cs, σ.get (σ.next - 1) = some (.cells cs)) :
    ∃ bo σ', Run X (.round 8) [.agg (stA a b r (stN a b r s l i) (rat l i)), .int .i64 (seA a b r (stN a b r s l i) (rat l i))] σ = some (.ret, [.bool bo], σ') ∧
      (bo = true → seA a b r (stN a b r s l i) (rat l i) = 0 → J41 a b r s l tmR (i + 1) σ' ∧ σ'.get 9 = σ.get 9 ∧ σ'.get (σ.next - 1) = σ.get (σ.next - 1) ∧ σ.next ≤ σ'.next) ∧ ((bo = false ∨ seA a b r (stN a b r s l i) (rat l i) ≠ 0) → E41 tmR σ' ∧ seA a b r (stN a b r s l i) (rat l i) ≠ 0) := by
  obtain ⟨y, hyy⟩ : ∃ y, σ.next - 1 = y := ⟨_, rfl⟩
  rw [hyy] at hq hy ⊢
  have hy1 : y < σ.next := by omega
  have n1 : ¬ 2 = σ.next := by omega
  have n2 : ¬ σ.next = 2 := by omega
  have n3 : ¬ 2 = σ.next + 1 := by omega
  have n4 : ¬ σ.next + 1 = 2 := by omega
  have n5 : ¬ 2 = σ.next + 1 + 1 := by omega
  have n6 : ¬ σ.next + 1 + 1 = 2 := by omega
  have n7 : ¬ 2 = σ.next + 1 + 1 + 1 := by omega
  have n8 : ¬ σ.next + 1 + 1 + 1 = 2 := by omega
  have n9 : ¬ 2 = y := by omega
  have n10 : ¬ y = 2 := by omega
  have n11 : ¬ 3 = σ.next := by omega
  have n12 : ¬ σ.next = 3 := by omega
  have n13 : ¬ 3 = σ.next + 1 := by omega
  have n14 : ¬ σ.next + 1 = 3 := by omega
  have n15 : ¬ 3 = σ.next + 1 + 1 := by omega
  have n16 : ¬ σ.next + 1 + 1 = 3 := by omega
  have n17 : ¬ 3 = σ.next + 1 + 1 + 1 := by omega
  have n18 : ¬ σ.next + 1 + 1 + 1 = 3 := by omega
  have n19 : ¬ 3 = y := by omega
  have n20 : ¬ y = 3 := by omega
  have n21 : ¬ 4 = σ.next := by omega
  have n22 : ¬ σ.next = 4 := by omega
  have n23 : ¬ 4 = σ.next + 1 := by omega
  have n24 : ¬ σ.next + 1 = 4 := by omega
  have n25 : ¬ 4 = σ.next + 1 + 1 := by omega
  have n26 : ¬ σ.next + 1 + 1 = 4 := by omega
  have n27 : ¬ 4 = σ.next + 1 + 1 + 1 := by omega
  have n28 : ¬ σ.next + 1 + 1 + 1 = 4 := by omega
  have n29 : ¬ 4 = y := by omega
  have n30 : ¬ y = 4 := by omega
  have n31 : ¬ 6 = σ.next := by omega
  have n32 : ¬ σ.next = 6 := by omega
  have n33 : ¬ 6 = σ.next + 1 := by omega
  have n34 : ¬ σ.next + 1 = 6 := by omega
  have n35 : ¬ 6 = σ.next + 1 + 1 := by omega
  have n36 : ¬ σ.next + 1 + 1 = 6 := by omega
  have n37 : ¬ 6 = σ.next + 1 + 1 + 1 := by omega
  have n38 : ¬ σ.next + 1 + 1 + 1 = 6 := by omega
  have n39 : ¬ 6 = y := by omega
  have n40 : ¬ y = 6 := by omega
  have n41 : ¬ 7 = σ.next := by omega
  have n42 : ¬ σ.next = 7 := by omega
  have n43 : ¬ 7 = σ.next + 1 := by omega
  have n44 : ¬ σ.next + 1 = 7 := by omega
  have n45 : ¬ 7 = σ.next + 1 + 1 := by omega
  have n46 : ¬ σ.next + 1 + 1 = 7 := by omega
  have n47 : ¬ 7 = σ.next + 1 + 1 + 1 := by omega
  have n48 : ¬ σ.next + 1 + 1 + 1 = 7 := by omega
  have n49 : ¬ 7 = y := by omega
  have n50 : ¬ y = 7 := by omega
  have n51 : ¬ 8 = σ.next := by omega
  have n52 : ¬ σ.next = 8 := by omega
  have n53 : ¬ 8 = σ.next + 1 := by omega
  have n54 : ¬ σ.next + 1 = 8 := by omega
  have n55 : ¬ 8 = σ.next + 1 + 1 := by omega
  have n56 : ¬ σ.next + 1 + 1 = 8 := by omega
  have n57 : ¬ 8 = σ.next + 1 + 1 + 1 := by omega
  have n58 : ¬ σ.next + 1 + 1 + 1 = 8 := by omega
  have n59 : ¬ 8 = y := by omega
  have n60 : ¬ y = 8 := by omega
  have n61 : ¬ 9 = σ.next := by omega
  have n62 : ¬ σ.next = 9 := by omega
  have n63 : ¬ 9 = σ.next + 1 := by omega
  have n64 : ¬ σ.next + 1 = 9 := by omega
  have n65 : ¬ 9 = σ.next + 1 + 1 := by omega
  have n66 : ¬ σ.next + 1 + 1 = 9 := by omega
  have n67 : ¬ 9 = σ.next + 1 + 1 + 1 := by omega
  have n68 : ¬ σ.next + 1 + 1 + 1 = 9 := by omega
  have n69 : ¬ 9 = y := by omega
  have n70 : ¬ y = 9 := by omega
  have n71 : ¬ y = σ.next := by omega
  have n72 : ¬ σ.next = y := by omega
  have n73 : ¬ y = σ.next + 1 := by omega
  have n74 : ¬ σ.next + 1 = y := by omega
  have n75 : ¬ y = σ.next + 1 + 1 := by omega
  have n76 : ¬ σ.next + 1 + 1 = y := by omega
  have n77 : ¬ y = σ.next + 1 + 1 + 1 := by omega
  have n78 : ¬ σ.next + 1 + 1 + 1 = y := by omega
  have n79 : ¬ σ.next = σ.next + 1 := by omega
  have n80 : ¬ σ.next = σ.next + 1 + 1 := by omega
  have n81 : ¬ σ.next = σ.next + 1 + 1 + 1 := by omega
  have n82 : ¬ σ.next + 1 = σ.next := by omega
  have n83 : ¬ σ.next + 1 = σ.next + 1 + 1 := by omega
  have n84 : ¬ σ.next + 1 = σ.next + 1 + 1 + 1 := by omega
  have n85 : ¬ σ.next + 1 + 1 = σ.next := by omega
  have n86 : ¬ σ.next + 1 + 1 = σ.next + 1 := by omega
  have n87 : ¬ σ.next + 1 + 1 = σ.next + 1 + 1 + 1 := by omega
  have n88 : ¬ σ.next + 1 + 1 + 1 = σ.next := by omega
  have n89 : ¬ σ.next + 1 + 1 + 1 = σ.next + 1 := by omega
  have n90 : ¬ σ.next + 1 + 1 + 1 = σ.next + 1 + 1 := by omega
  have g2 := hJ.g2; have g3 := hJ.g3; have g4 := hJ.g4; have g7 := hJ.g7; have g8 := hJ.g8
  obtain ⟨vs, g6, hO⟩ := hJ.g6
  have hln := fr.len; have h6 := fr.t6; have h7 := fr.t7; have h8 := fr.t8; have h12 := fr.t12; have h13 := fr.t13
  have hin : roundIn σ 8 [.agg (stA a b r (stN a b r s l i) (rat l i)), .int .i64 (seA a b r (stN a b r s l i) (rat l i))] = some (putT (putT tmR (some 35) (.agg (stA a b r (stN a b r s l i) (rat l i)))) (some 36) (.int .i64 (seA a b r (stN a b r s l i) (rat l i))), xf11a0, xf11b0) := by
    unfold roundIn
    rw [g8]; rfl
  by_cases hz : seA a b r (stN a b r s l i) (rat l i) = 0
  · have hsa := stA_ok hz
    rw [hz, hsa] at hin ⊢
    have eA : Ends (Run X (.code xf11a0) (putT (putT tmR (some 35) (.agg [.int .i64 (nx a b r (stN a b r s l i) (rat l i)).1, .int .i64 (nx a b r (stN a b r s l i) (rat l i)).2, .int .i64 (evN a b r (stN a b r s l i)), .int .i64 (spN a b r (stN a b r s l i) (rat l i))])) (some 36) (.int .i64 0)) σ) .normal fun tm σ1 => tm.length = 63 ∧ XOpd.eval tm (.t 6) = .ptr 2 0 ∧ XOpd.eval tm (.t 7) = .ptr 3 0 ∧ XOpd.eval tm (.t 8) = .ptr 4 0 ∧ XOpd.eval tm (.t 12) = .ptr 6 0 ∧ XOpd.eval tm (.t 13) = .ptr 7 0 ∧ XOpd.eval tm (.t 14) = .ptr σ.next 0 ∧ XOpd.eval tm (.t 15) = .int .i64 0 ∧
        σ1 = (σ.new (.cells [.int .i64 0, .int .i64 0, .int .i64 0, .int .i64 0])).put σ.next (.cells [.int .i64 (nx a b r (stN a b r s l i) (rat l i)).1, .int .i64 (nx a b r (stN a b r s l i) (rat l i)).2, .int .i64 (evN a b r (stN a b r s l i)), .int .i64 (spN a b r (stN a b r s l i) (rat l i))]) := by
      simp [xf11a0, hln, h6, h7, h8, h12, h13, put_next, new_next, Store.get_new, Store.get_put, put_get, setR, only_get, merge_get', only_next, merge_next, upTo_self, upTo_one, merge_only, touch, wrote, isIn, okRec, hits, capsOf, xcaps, stripL, AVal.strip, freeL, AVal.free, fillR, chunks, mkV]
    obtain ⟨o1, o2, o3, o4, o5, o6, o7, o8, o9, o10⟩ := out_of eA
    generalize outT X xf11a0 _ σ = tm1 at *
    generalize outS X xf11a0 _ σ = σ1 at *
    have hmid : roundMid σ1 8 = some (σ1.put 8 (.oth (.loop .busy tmR [35, 36] xf11a0 xf11b0))) := by
      unfold roundMid
      rw [o10, Store.get_put, Mem.put_ne _ (by omega), Store.get_new, Mem.put_ne _ (by omega), g8]
    have t86 := t86 hX.pair (nx a b r (stN a b r s l i) (rat l i)).1 (nx a b r (stN a b r s l i) (rat l i)).2
    have hev' : IntKind.i64.wrap (evS a b r s l i + evN a b r (stN a b r s l i)) = evS a b r s l (i + 1) := hev
    have hsp' : IntKind.i64.wrap (spS a b r s l i + spN a b r (stN a b r s l i) (rat l i)) = spS a b r s l (i + 1) := hsp
    have eB : Ends (Run X (.code xf11b0) tm1 (σ1.put 8 (.oth (.loop .busy tmR [35, 36] xf11a0 xf11b0)))) .normal fun _ σ3 => σ3.get 2 = σ.get 2 ∧ σ3.get 3 = σ.get 3 ∧ σ3.get 4 = σ.get 4 ∧ (∃ v, σ3.get 6 = some (.cells [v]) ∧ OutE 28 σ3 10 (sts a b r s l (i + 1)) v) ∧ σ3.get 7 = some (.cells [.int .i64 (evS a b r s l (i + 1)), .int .i64 (spS a b r s l (i + 1))]) ∧ σ3.get 8 = some (.oth (.loop .busy tmR [35, 36] xf11a0 xf11b0)) ∧ σ3.get 9 = σ.get 9 ∧ σ3.get y = σ.get y ∧ σ.next ≤ σ3.next := by
      rw [o10]
      generalize (NObj.oth (.loop .busy tmR [35, 36] xf11a0 xf11b0)) = ob
      rcases hO with ⟨rfl, hs0⟩ | ⟨j, j1, j2, rfl, j4⟩
      · simp [xf11b0, o2, o3, o4, o5, o6, o7, o8, o9, g2, g3, g4, g6, g7, g8, t86, hev', hsp', xappend, ones, AVal.one, n1, n2, n3, n4, n5, n6, n7, n8, n9, n10, n11, n12, n13, n14, n15, n16, n17, n18, n19, n20, n21, n22, n23, n24, n25, n26, n27, n28, n29, n30, n31, n32, n33, n34, n35, n36, n37, n38, n39, n40, n41, n42, n43, n44, n45, n46, n47, n48, n49, n50, n51, n52, n53, n54, n55, n56, n57, n58, n59, n60, n61, n62, n63, n64, n65, n66, n67, n68, n69, n70, n71, n72, n73, n74, n75, n76, n77, n78, n79, n80, n81, n82, n83, n84, n85, n86, n87, n88, n89, n90, put_next, new_next, Store.get_new, Store.get_put, put_get, setR, only_get, merge_get', only_next, merge_next, upTo_self, upTo_one, merge_only, touch, wrote, isIn, okRec, hits, capsOf, xcaps, stripL, AVal.strip, freeL, AVal.free, fillR, chunks, mkV]
        refine ⟨by omega, .inr ⟨σ.next + 1 + 1, by omega, by simp [put_next, new_next, Store.get_new, Store.get_put, put_get, setR, only_get, merge_get', only_next, merge_next, upTo_self, upTo_one, merge_only, touch, wrote, isIn, okRec, hits, capsOf, xcaps, stripL, AVal.strip, freeL, AVal.free, fillR, chunks, mkV], ?_, ?_⟩, by omega⟩
        · simp [sts, hs0, kns, Kn.enc, stN, put_next, new_next, Store.get_new, Store.get_put, put_get, setR, only_get, merge_get', only_next, merge_next, upTo_self, upTo_one, merge_only, touch, wrote, isIn, okRec, hits, capsOf, xcaps, stripL, AVal.strip, freeL, AVal.free, fillR, chunks, mkV]
        · simp [sts, hs0, n1, n2, n3, n4, n5, n6, n7, n8, n9, n10, n11, n12, n13, n14, n15, n16, n17, n18, n19, n20, n21, n22, n23, n24, n25, n26, n27, n28, n29, n30, n31, n32, n33, n34, n35, n36, n37, n38, n39, n40, n41, n42, n43, n44, n45, n46, n47, n48, n49, n50, n51, n52, n53, n54, n55, n56, n57, n58, n59, n60, n61, n62, n63, n64, n65, n66, n67, n68, n69, n70, n71, n72, n73, n74, n75, n76, n77, n78, n79, n80, n81, n82, n83, n84, n85, n86, n87, n88, n89, n90, put_next, new_next, Store.get_new, Store.get_put, put_get, setR, only_get, merge_get', only_next, merge_next, upTo_self, upTo_one, merge_only, touch, wrote, isIn, okRec, hits, capsOf, xcaps, stripL, AVal.strip, freeL, AVal.free, fillR, chunks, mkV]
      · have hjy : j ≠ y := by rintro rfl; obtain ⟨cs, hcs⟩ := hy; rw [j4] at hcs; cases hcs
        have n91 : ¬ 2 = j := by omega
        have n92 : ¬ j = 2 := by omega
        have n93 : ¬ 3 = j := by omega
        have n94 : ¬ j = 3 := by omega
        have n95 : ¬ 4 = j := by omega
        have n96 : ¬ j = 4 := by omega
        have n97 : ¬ 6 = j := by omega
        have n98 : ¬ j = 6 := by omega
        have n99 : ¬ 7 = j := by omega
        have n100 : ¬ j = 7 := by omega
        have n101 : ¬ 8 = j := by omega
        have n102 : ¬ j = 8 := by omega
        have n103 : ¬ 9 = j := by omega
        have n104 : ¬ j = 9 := by omega
        have n105 : ¬ j = σ.next := by omega
        have n106 : ¬ σ.next = j := by omega
        have n107 : ¬ j = σ.next + 1 := by omega
        have n108 : ¬ σ.next + 1 = j := by omega
        have n109 : ¬ j = σ.next + 1 + 1 := by omega
        have n110 : ¬ σ.next + 1 + 1 = j := by omega
        have n111 : ¬ j = σ.next + 1 + 1 + 1 := by omega
        have n112 : ¬ σ.next + 1 + 1 + 1 = j := by omega
        have n113 : ¬ j = y := by omega
        have n114 : ¬ y = j := by omega
        have e1 : (i + 1) * 16 ≤ 1000000000000 := by omega
        have e2 : i + 1 ≤ 1000000000000 := by omega
        simp [xf11b0, o2, o3, o4, o5, o6, o7, o8, o9, g2, g3, g4, g6, g7, g8, j4, e1, e2, t86, hev', hsp', xappend, ones, AVal.one, n1, n2, n3, n4, n5, n6, n7, n8, n9, n10, n11, n12, n13, n14, n15, n16, n17, n18, n19, n20, n21, n22, n23, n24, n25, n26, n27, n28, n29, n30, n31, n32, n33, n34, n35, n36, n37, n38, n39, n40, n41, n42, n43, n44, n45, n46, n47, n48, n49, n50, n51, n52, n53, n54, n55, n56, n57, n58, n59, n60, n61, n62, n63, n64, n65, n66, n67, n68, n69, n70, n71, n72, n73, n74, n75, n76, n77, n78, n79, n80, n81, n82, n83, n84, n85, n86, n87, n88, n89, n90, n91, n92, n93, n94, n95, n96, n97, n98, n99, n100, n101, n102, n103, n104, n105, n106, n107, n108, n109, n110, n111, n112, n113, n114, put_next, new_next, Store.get_new, Store.get_put, put_get, setR, only_get, merge_get', only_next, merge_next, upTo_self, upTo_one, merge_only, touch, wrote, isIn, okRec, hits, capsOf, xcaps, stripL, AVal.strip, freeL, AVal.free, fillR, chunks, mkV]
        refine ⟨.inr ⟨j, by omega, by simp [put_next, new_next, Store.get_new, Store.get_put, put_get, setR, only_get, merge_get', only_next, merge_next, upTo_self, upTo_one, merge_only, touch, wrote, isIn, okRec, hits, capsOf, xcaps, stripL, AVal.strip, freeL, AVal.free, fillR, chunks, mkV]; omega, ?_, ?_⟩, by omega⟩
        · simp [sts, kns, Kn.enc, stN, put_next, new_next, Store.get_new, Store.get_put, put_get, setR, only_get, merge_get', only_next, merge_next, upTo_self, upTo_one, merge_only, touch, wrote, isIn, okRec, hits, capsOf, xcaps, stripL, AVal.strip, freeL, AVal.free, fillR, chunks, mkV]
        · simp [sts, n1, n2, n3, n4, n5, n6, n7, n8, n9, n10, n11, n12, n13, n14, n15, n16, n17, n18, n19, n20, n21, n22, n23, n24, n25, n26, n27, n28, n29, n30, n31, n32, n33, n34, n35, n36, n37, n38, n39, n40, n41, n42, n43, n44, n45, n46, n47, n48, n49, n50, n51, n52, n53, n54, n55, n56, n57, n58, n59, n60, n61, n62, n63, n64, n65, n66, n67, n68, n69, n70, n71, n72, n73, n74, n75, n76, n77, n78, n79, n80, n81, n82, n83, n84, n85, n86, n87, n88, n89, n90, n91, n92, n93, n94, n95, n96, n97, n98, n99, n100, n101, n102, n103, n104, n105, n106, n107, n108, n109, n110, n111, n112, n113, n114, put_next, new_next, Store.get_new, Store.get_put, put_get, setR, only_get, merge_get', only_next, merge_next, upTo_self, upTo_one, merge_only, touch, wrote, isIn, okRec, hits, capsOf, xcaps, stripL, AVal.strip, freeL, AVal.free, fillR, chunks, mkV]
    obtain ⟨p1, p2, p3, p4, p5, p6, p7, p8, p9, p10⟩ := out_of eB
    generalize outT X xf11b0 _ _ = tm3 at *
    generalize outS X xf11b0 _ _ = σ3 at *
    have hout : roundOut σ3 8 .normal = some (σ3.put 8 (.oth (.loop .ready tmR [35, 36] xf11a0 xf11b0))) := by
      unfold roundOut
      rw [p7]; rfl
    refine ⟨true, _, Run_round hin o1 hmid p1 hout, fun _ _ => ⟨⟨?_, ?_, ?_, ?_, ?_, ?_, ?_, ?_⟩, ?_, ?_, ?_⟩, fun h => absurd h (by simp)⟩
    · show 9 ≤ σ3.next; have := hJ.nx; omega
    · intro j hj
      by_cases e : j = i
      · subst e; exact hz
      · exact hJ.ok j (by omega)
    · rw [Store.get_put, Mem.put_ne _ (by decide), p2]; exact g2
    · rw [Store.get_put, Mem.put_ne _ (by decide), p3]; exact g3
    · rw [Store.get_put, Mem.put_ne _ (by decide), p4]; exact g4
    · obtain ⟨v, v1, v2⟩ := p5
      exact ⟨v, by rw [Store.get_put, Mem.put_ne _ (by decide)]; exact v1, v2.far (fun m h1 h2 => by rw [Store.get_put, Mem.put_ne _ (by omega)]) (Nat.le_refl _)⟩
    · rw [Store.get_put, Mem.put_ne _ (by decide)]; exact p6
    · rw [Store.get_put, Mem.put_self]
    · rw [Store.get_put, Mem.put_ne _ (by decide)]; exact p8
    · rw [Store.get_put, Mem.put_ne _ (by omega)]; exact p9
    · exact p10
  · have h22 := (seA_cases a b r (stN a b r s l i) (rat l i)).resolve_left hz
    have hsa := stA_no hz
    rw [h22, hsa] at hin ⊢
    have eA : Ends (Run X (.code xf11a0) (putT (putT tmR (some 35) (.agg [.int .i64 0, .int .i64 0, .int .i64 0, .int .i64 0])) (some 36) (.int .i64 22)) σ) .normal fun tm σ1 => tm.length = 63 ∧ XOpd.eval tm (.t 6) = .ptr 2 0 ∧ XOpd.eval tm (.t 7) = .ptr 3 0 ∧ XOpd.eval tm (.t 8) = .ptr 4 0 ∧ XOpd.eval tm (.t 12) = .ptr 6 0 ∧ XOpd.eval tm (.t 13) = .ptr 7 0 ∧ XOpd.eval tm (.t 14) = .ptr σ.next 0 ∧ XOpd.eval tm (.t 15) = .int .i64 22 ∧
        σ1 = (σ.new (.cells [.int .i64 0, .int .i64 0, .int .i64 0, .int .i64 0])).put σ.next (.cells [.int .i64 0, .int .i64 0, .int .i64 0, .int .i64 0]) := by
      simp [xf11a0, hln, h6, h7, h8, h12, h13, put_next, new_next, Store.get_new, Store.get_put, put_get, setR, only_get, merge_get', only_next, merge_next, upTo_self, upTo_one, merge_only, touch, wrote, isIn, okRec, hits, capsOf, xcaps, stripL, AVal.strip, freeL, AVal.free, fillR, chunks, mkV]
    obtain ⟨o1, o2, o3, o4, o5, o6, o7, o8, o9, o10⟩ := out_of eA
    generalize outT X xf11a0 _ σ = tm1 at *
    generalize outS X xf11a0 _ σ = σ1 at *
    have hmid : roundMid σ1 8 = some (σ1.put 8 (.oth (.loop .busy tmR [35, 36] xf11a0 xf11b0))) := by
      unfold roundMid
      rw [o10, Store.get_put, Mem.put_ne _ (by omega), Store.get_new, Mem.put_ne _ (by omega), g8]
    have eB : Ends (Run X (.code xf11b0) tm1 (σ1.put 8 (.oth (.loop .busy tmR [35, 36] xf11a0 xf11b0)))) .ret fun _ σ3 => σ3.get 2 = σ.get 2 ∧ σ3.get 3 = σ.get 3 ∧ σ3.get 4 = some (.cells [.int .i64 22]) ∧ σ3.get 8 = some (.oth (.loop .busy tmR [35, 36] xf11a0 xf11b0)) := by
      rw [o10]
      generalize (NObj.oth (.loop .busy tmR [35, 36] xf11a0 xf11b0)) = ob
      simp [xf11b0, o2, o3, o4, o5, o6, o7, o8, o9, g2, g3, g4, g6, g7, g8, n1, n2, n3, n4, n5, n6, n7, n8, n9, n10, n11, n12, n13, n14, n15, n16, n17, n18, n19, n20, n21, n22, n23, n24, n25, n26, n27, n28, n29, n30, n31, n32, n33, n34, n35, n36, n37, n38, n39, n40, n41, n42, n43, n44, n45, n46, n47, n48, n49, n50, n51, n52, n53, n54, n55, n56, n57, n58, n59, n60, n61, n62, n63, n64, n65, n66, n67, n68, n69, n70, n71, n72, n73, n74, n75, n76, n77, n78, n79, n80, n81, n82, n83, n84, n85, n86, n87, n88, n89, n90, put_next, new_next, Store.get_new, Store.get_put, put_get, setR, only_get, merge_get', only_next, merge_next, upTo_self, upTo_one, merge_only, touch, wrote, isIn, okRec, hits, capsOf, xcaps, stripL, AVal.strip, freeL, AVal.free, fillR, chunks, mkV]
    obtain ⟨p1, p2, p3, p4, p5⟩ := out_of eB
    generalize outT X xf11b0 _ _ = tm3 at *
    generalize outS X xf11b0 _ _ = σ3 at *
    have hout : roundOut σ3 8 .ret = some (σ3.put 8 (.oth (.loop (.done .ret) tmR [35, 36] xf11a0 xf11b0))) := by
      unfold roundOut
      rw [p5]; rfl
    refine ⟨false, _, Run_round hin o1 hmid p1 hout, (fun h => by cases h), fun _ => ⟨⟨?_, ?_, ?_, ?_⟩, by decide⟩⟩
    · rw [Store.get_put, Mem.put_ne _ (by decide), p2]; exact g2
    · rw [Store.get_put, Mem.put_ne _ (by decide), p3]; exact g3
    · rw [Store.get_put, Mem.put_ne _ (by decide)]; exact p4
    · rw [Store.get_put, Mem.put_self]
end
end Go.Proofs.YtbgjmclpahganaaGreat.Eng

/-
  RUNS, D: the whole run.
-/
namespace Go.Proofs.YtbgjmclpahganaaGreat.Eng
set_option linter.unusedSimpArgs false
set_option linter.unusedVariables false

/-- Whether all of so many steps are possible. -/
def seF (a b : List Kn) (r : Int) (s : Kn) (l : List Rdg) : Nat → Int
  | 0 => 0
  | k + 1 => if seF a b r s l k ≠ 0 then seF a b r s l k else seA a b r (stN a b r s l k) (rat l k)
theorem seF_zero {a b : List Kn} {r : Int} {s : Kn} {l : List Rdg} : ∀ {k : Nat}, (∀ j, j < k → seA a b r (stN a b r s l j) (rat l j) = 0) → seF a b r s l k = 0
  | 0, _ => rfl
  | k + 1, h => by
    have h0 := seF_zero (k := k) (fun j hj => h j (by omega))
    simp only [seF, h0, ne_eq, not_true_eq_false, if_false]
    exact h k (by omega)
theorem seF_all {a b : List Kn} {r : Int} {s : Kn} {l : List Rdg} : ∀ {k : Nat}, seF a b r s l k = 0 → ∀ j, j < k → seA a b r (stN a b r s l j) (rat l j) = 0
  | 0, _, j, hj => by omega
  | k + 1, h, j, hj => by
    simp only [seF] at h
    split at h
    · contradiction
    · rename_i h0
      by_cases e : j = k
      · subst e; exact h
      · exact seF_all (k := k) (by simpa using h0) j (by omega)
theorem seF_no {a b : List Kn} {r : Int} {s : Kn} {l : List Rdg} : ∀ {k n : Nat}, n < k → (∀ j, j < n → seA a b r (stN a b r s l j) (rat l j) = 0) → seA a b r (stN a b r s l n) (rat l n) ≠ 0 → seF a b r s l k = 22
  | 0, n, hn, _, _ => by omega
  | k + 1, n, hn, h, hz => by
    simp only [seF]
    by_cases e : n = k
    · subst e
      rw [if_neg (by rw [seF_zero h]; simp)]
      exact (seA_cases _ _ _ _ _).resolve_left hz
    · have := seF_no (k := k) (n := n) (by omega) h hz
      rw [this]; simp
/-- States stay valid. -/
theorem stN_vol {a b : List Kn} (ta : Tab a) (tb : Tab b) {r : Int} {s : Kn} {l : List Rdg} (v1 : isVol a s.1 = true) (v2 : isVol b s.2 = true) : ∀ {i : Nat}, (∀ j, j < i → seA a b r (stN a b r s l j) (rat l j) = 0) → isVol a (stN a b r s l i).1 = true ∧ isVol b (stN a b r s l i).2 = true
  | 0, _ => ⟨v1, v2⟩
  | i + 1, h => nx_vol ta tb (h i (by omega))
theorem volume_in {a : List Kn} (ta : Tab a) {x : Int} (h : isVol a x = true) : 0 ≤ x ∧ x ≤ 1000000000 := by
  have a2 := ta.two
  have i0 := ta.inr 0 (by omega); have i1 := ta.inr (a.length - 1) (by omega)
  have := isVol_iff.1 h
  unfold InR at i0 i1
  omega
theorem evN_in {a b : List Kn} (ta : Tab a) (tb : Tab b) {r : Int} (r0 : 0 ≤ r) (r1 : r ≤ 1000) {s : Kn} (v1 : isVol a s.1 = true) (v2 : isVol b s.2 = true) : 0 ≤ evN a b r s ∧ evN a b r s ≤ 2000000000 := by
  have e1 := ev_ok ta v1 r0 r1; have e2 := ev_ok tb v2 r0 r1
  have q1 := e1.e0; have q2 := e1.e1; have q3 := e2.e0; have q4 := e2.e1
  have w1 := volume_in ta v1; have w2 := volume_in tb v2
  have i0 := ta.inr 0 (by have := ta.two; omega); have i1 := tb.inr 0 (by have := tb.two; omega)
  unfold InR at i0 i1
  unfold evN
  omega
theorem spN_in {a b : List Kn} (ta : Tab a) (tb : Tab b) {r : Int} (r0 : 0 ≤ r) (r1 : r ≤ 1000) {s : Kn} {f : Rdg} (v1 : isVol a s.1 = true) (v2 : isVol b s.2 = true) (hf : flErr f.1 f.2.1 f.2.2 = 0) : 0 ≤ spN a b r s f ∧ spN a b r s f ≤ 2100000000 := by
  have e1 := ev_ok ta v1 r0 r1; have e2 := ev_ok tb v2 r0 r1
  have q1 := e1.e0; have q3 := e2.e0
  have w1 := volume_in ta v1; have w2 := volume_in tb v2
  have i0 := ta.inr (a.length - 1) (by have := ta.two; omega); have i1 := tb.inr (b.length - 1) (by have := tb.two; omega)
  unfold InR at i0 i1
  have hfl := fl_ok hf
  unfold spN spV upV
  constructor <;> (repeat' split) <;> omega
theorem sums_in {a b : List Kn} (ta : Tab a) (tb : Tab b) {r : Int} (r0 : 0 ≤ r) (r1 : r ≤ 1000) {s : Kn} {l : List Rdg} (v1 : isVol a s.1 = true) (v2 : isVol b s.2 = true) (hf : ∀ i, i < l.length → ferr l i = 0) : ∀ {i : Nat}, i ≤ l.length → (∀ j, j + 1 < i → seA a b r (stN a b r s l j) (rat l j) = 0) →
    0 ≤ evS a b r s l i ∧ evS a b r s l i ≤ 2000000000 * i ∧ 0 ≤ spS a b r s l i ∧ spS a b r s l i ≤ 2100000000 * i
  | 0, _, _ => by simp [evS, spS]
  | i + 1, hi, h => by
    have ih := sums_in ta tb r0 r1 v1 v2 hf (i := i) (by omega) (fun j hj => h j (by omega))
    obtain ⟨w1, w2⟩ := stN_vol ta tb v1 v2 (i := i) (l := l) (r := r) (fun j hj => h j (by omega))
    have e := evN_in ta tb r0 r1 w1 w2
    have p := spN_in ta tb r0 r1 w1 w2 (hf i (by omega))
    have ee : evS a b r s l (i + 1) = evS a b r s l i + evN a b r (stN a b r s l i) := rfl
    have pp : spS a b r s l (i + 1) = spS a b r s l i + spN a b r (stN a b r s l i) (rat l i) := rfl
    rw [ee, pp]
    push_cast
    omega

/-- The error of a run; its states; its losses. -/
def runE (a b : List Kn) (r : Int) (s : Kn) (l : List Rdg) : Int := if bothErr a b r s.1 s.2 ≠ 0 then bothErr a b r s.1 s.2 else if listErr l ≠ 0 then listErr l else seF a b r s l l.length
def runS (a b : List Kn) (r : Int) (s : Kn) (l : List Rdg) : List Kn := if runE a b r s l = 0 then sts a b r s l l.length else []
def runX (a b : List Kn) (r : Int) (s : Kn) (l : List Rdg) : AVal := if runE a b r s l = 0 then .agg [.int .i64 (evS a b r s l l.length), .int .i64 (spS a b r s l l.length)] else .agg [.int .i64 0, .int .i64 0]
def RunV (a b : List Kn) (r : Int) (s : Kn) (l : List Rdg) (v : AVal) : Prop := ∃ vs, KL (runS a b r s l) vs ∧ v = .tup [vs, runX a b r s l, .int .i64 (runE a b r s l)]

section
variable {X : FuncId → Option XFunc} (hX : RunCode X)
include hX
/-- The loop of the run. -/
theorem range41 {a b : List Kn} {u v : AVal} (p : PV a b u v) (ta : Tab a) (tb : Tab b) {r : Int} (r0 : 0 ≤ r) (r1 : r ≤ 1000) {l : List Rdg} {w : AVal} (hw : RL l w) (hL : listErr l = 0) {s : Kn} (v1 : isVol a s.1 = true) (v2 : isVol b s.2 = true) {tm : List AVal} (fr : Fr41 tm) (h34 : XOpd.eval tm (.t 34) = .fn 81 [] [.iptr [u, v, .int .i64 r, .int .i64 s.1, .int .i64 s.2] 0, .iptr [w] 0]) {σ : Store} (hn : σ.next = 8)
    (g2 : σ.get 2 = some (.cells [.nils])) (g3 : σ.get 3 = some (.cells [.int .i64 0, .int .i64 0])) (g4 : σ.get 4 = some (.cells [.int .i64 0])) (g6 : σ.get 6 = some (.cells [.nils])) (g7 : σ.get 7 = some (.cells [.int .i64 0, .int .i64 0])) :
    (seF a b r s l l.length = 0 ∧ ∃ τ vs m0, Run X (.code (.rangeF (.t 34) [35, 36] xf11a0 xf11b0)) tm σ = some (.normal, tm, τ) ∧ τ.get 2 = some (.cells [.nils]) ∧ τ.get 3 = some (.cells [.int .i64 0, .int .i64 0]) ∧ τ.get 4 = some (.cells [.int .i64 0]) ∧ τ.get 6 = some (.cells [vs]) ∧ KL (sts a b r s l l.length) vs.strip ∧ (vs = .nils ∨ vs = .list 2 (kns (sts a b r s l l.length)) (some m0)) ∧ τ.get 7 = some (.cells [.int .i64 (evS a b r s l l.length), .int .i64 (spS a b r s l l.length)])) ∨
    (seF a b r s l l.length = 22 ∧ ∃ τ, Run X (.code (.rangeF (.t 34) [35, 36] xf11a0 xf11b0)) tm σ = some (.ret, tm, τ) ∧ τ.get 2 = some (.cells [.nils]) ∧ τ.get 3 = some (.cells [.int .i64 0, .int .i64 0]) ∧ τ.get 4 = some (.cells [.int .i64 22])) := by
  obtain ⟨hl1, hf⟩ := list_ok hL
  obtain ⟨σ0, hσ0⟩ : ∃ σ0, σ.new (.oth (.loop .ready tm [35, 36] xf11a0 xf11b0)) = σ0 := ⟨_, rfl⟩
  have n0 : σ0.next = 9 := by rw [← hσ0]; simp [Store.new, hn]
  have far0 : ∀ k, k ≠ 8 → σ0.get k = σ.get k := fun k hk => by rw [← hσ0, Store.get_new, Mem.put_ne _ (by omega)]
  have g8 : σ0.get 8 = some (.oth (.loop .ready tm [35, 36] xf11a0 xf11b0)) := by rw [← hσ0, Store.get_new, hn, Mem.put_self]
  have hJ0 : J41 a b r s l tm 0 σ0 :=
    ⟨by omega, fun j hj => by omega, by rw [far0 2 (by omega)]; exact g2, by rw [far0 3 (by omega)]; exact g3, by rw [far0 4 (by omega)]; exact g4, ⟨.nils, by rw [far0 6 (by omega)]; exact g6, .inl ⟨rfl, rfl⟩⟩, by rw [far0 7 (by omega)]; exact g7, g8⟩
  obtain ⟨τ, hrun, hend⟩ := t129 hX p ta tb r0 r1 hw hf (by omega) v1 v2 (m := 8) (σ0 := σ0) (J := J41 a b r s l tm) (E := fun n τ => E41 tm τ ∧ seA a b r (stN a b r s l n) (rat l n) ≠ 0) hJ0
    (fun i σ τ h1 h2 h3 => by rw [n0] at h2; exact h1.far h2 h3)
    (fun i σ hi hJ hq hy => by
      rw [n0] at hq
      have q1 := sums_in ta tb r0 r1 v1 v2 hf (i := i + 1) (by omega) (fun j hj => hJ.ok j (by omega))
      have ew : IntKind.i64.wrap (evS a b r s l (i + 1)) = evS a b r s l (i + 1) := by rw [wrap_i64] <;> omega
      have pw : IntKind.i64.wrap (spS a b r s l (i + 1)) = spS a b r s l (i + 1) := by rw [wrap_i64] <;> omega
      obtain ⟨bo, σ', k1, k2, k3⟩ := rnd41 hX fr hi (by omega) ew pw hJ hq hy
      exact ⟨bo, σ', k1, by rw [n0]; exact k2, k3⟩)
  have hcall : Run X (.code (.rangeF (.t 34) [35, 36] xf11a0 xf11b0)) tm σ = rangeC (some (.ret, [.tup []], gc σ0 τ (.tup []))) 8 tm := by
    rw [Run_rangeF, h34]
    simp only [rangeD, List.nil_append, List.cons_append, hn, hσ0]
    rw [hrun]
  have gcg : ∀ k, k < 9 → (gc σ0 τ (.tup [])).get k = τ.get k := fun k hk => rfl
  have dg : ∀ k, k < 8 → ((gc σ0 τ (.tup [])).drop 8).get k = τ.get k := fun k hk => by
    rw [drop_get, if_neg (by omega)]; exact gcg k (by omega)
  rcases hend with ⟨hJ, hall⟩ | ⟨n, hn2, ⟨hE, hz⟩, hall⟩
  · refine .inl ⟨seF_zero hall, ?_⟩
    obtain ⟨vs, g6', hO⟩ := hJ.g6
    have ho : rangeOut (gc σ0 τ (.tup [])) 8 = some .normal := by unfold rangeOut; rw [gcg 8 (by omega), hJ.g8]
    refine ⟨(gc σ0 τ (.tup [])).drop 8, vs, ?_⟩
    have e2 : Run X (.code (.rangeF (.t 34) [35, 36] xf11a0 xf11b0)) tm σ = some (.normal, tm, (gc σ0 τ (.tup [])).drop 8) := by rw [hcall, rangeC_some _ _ _ _ _ ho]
    rcases hO with ⟨rfl, h0⟩ | ⟨j, j1, j2, rfl, j4⟩
    · exact ⟨0, e2, by rw [dg 2 (by omega)]; exact hJ.g2, by rw [dg 3 (by omega)]; exact hJ.g3, by rw [dg 4 (by omega)]; exact hJ.g4, by rw [dg 6 (by omega)]; exact g6', .inl ⟨rfl, h0⟩, .inl rfl, by rw [dg 7 (by omega)]; exact hJ.g7⟩
    · exact ⟨j, e2, by rw [dg 2 (by omega)]; exact hJ.g2, by rw [dg 3 (by omega)]; exact hJ.g3, by rw [dg 4 (by omega)]; exact hJ.g4, by rw [dg 6 (by omega)]; exact g6', .inr (by simp [AVal.strip, kns_strip]), .inr rfl, by rw [dg 7 (by omega)]; exact hJ.g7⟩
  · refine .inr ⟨seF_no hn2 hall hz, ?_⟩
    have ho : rangeOut (gc σ0 τ (.tup [])) 8 = some .ret := by unfold rangeOut; rw [gcg 8 (by omega), hE.g8]
    refine ⟨(gc σ0 τ (.tup [])).drop 8, by rw [hcall, rangeC_some _ _ _ _ _ ho], by rw [dg 2 (by omega)]; exact hE.g2, by rw [dg 3 (by omega)]; exact hE.g3, by rw [dg 4 (by omega)]; exact hE.g4⟩
end
end Go.Proofs.YtbgjmclpahganaaGreat.Eng

/-
  RUNS, E: what a run answers.
-/
namespace Go.Proofs.YtbgjmclpahganaaGreat.Eng
set_option linter.unusedSimpArgs false
set_option linter.unusedVariables false
theorem seq_left {X : FuncId → Option XFunc} (a b c : XCode) (tm : List AVal) (σ : Store) : Run X (.code (.seq a (.seq b c))) tm σ = Run X (.code (.seq (.seq a b) c)) tm σ := by
  rw [Run_seq, Run_seq, Run_seq]
  rcases Run X (.code a) tm σ with _ | ⟨e, tm1, σ1⟩
  · rfl
  · cases e with
    | normal => rw [thenC_normal, thenC_normal, Run_seq]
    | exit i => rfl
    | ret => rfl
section
variable {X : FuncId → Option XFunc} (hX : RunCode X)
include hX
set_option maxHeartbeats 4000000 in
theorem t41 {a b : List Kn} {u v : AVal} (p : PV a b u v) (r : Int) (s : Kn) {l : List Rdg} {w : AVal} (hw : RL l w) (hl1 : l.length ≤ 1000000) :
    ∃ z, RunV a b r s l z ∧ ∀ σ, Run X (.call 11) [.agg [u, v, .int .i64 r], .agg [.int .i64 s.1, .int .i64 s.2], w] σ = some (.ret, [z], σ) := by
  have ha := p.ka; have hb := p.kb
  have t83 := t83 hX.pair p r s.1 s.2
  have t91 := t91 hX hw hl1
  refine call3E hX.h11 (by simp [AVal.strip, stripL, AVal.free, freeL, ha.strip, ha.free, hb.strip, hb.free]) rfl (by rw [hw.strip]; exact hw.free) (by decide) (fun tm hl a0 a1 a2 => ?_)
  simp only [AVal.strip, stripL, ha.strip, hb.strip] at a0 a1
  rw [hw.strip] at a2
  replace hl : tm.length = 63 := hl
  have none_ok : ∀ e : Int, runE a b r s l = e → e ≠ 0 → Told (RunV a b r s l) (.tup [.nils, .agg [.int .i64 0, .int .i64 0], .int .i64 e]) := fun e he h0 => by
    refine ⟨rfl, .nils, .inl ⟨rfl, ?_⟩, ?_⟩
    · unfold runS; rw [if_neg (by rw [he]; exact h0)]
    · unfold runX; rw [if_neg (by rw [he]; exact h0), he]; rfl
  unfold GivesE
  by_cases h0 : bothErr a b r s.1 s.2 = 0
  · obtain ⟨ta, tb, r0, r1, v1, v2⟩ := both_ok h0
    have hp : pairErr a b r = 0 := by
      unfold bothErr at h0
      split at h0
      · exact h0
      · simp_all
    by_cases hL : listErr l = 0
    · have t92 := t92 hX p r s.1 s.2 hw
      have e0 : xf11.body = .seq xf11.body.fst (.seq xf11.body.snd.fst (.seq xf11.body.snd.snd.fst (.seq xf11.body.snd.snd.snd.fst (.seq xf11.body.snd.snd.snd.snd.fst (.seq xf11.body.snd.snd.snd.snd.snd.fst (.seq (.seq xf11.body.snd.snd.snd.snd.snd.snd.fst.fst (.block 0 (.rangeF (.t 34) [35, 36] xf11a0 xf11b0))) xf11.body.snd.snd.snd.snd.snd.snd.snd)))))) := rfl
      rw [e0, seq_left, seq_left, seq_left, seq_left, seq_left, seq_left, Run_seq, seq_left, Run_seq]
      have eP : Ends (Run X (.code (.seq (.seq (.seq (.seq (.seq (.seq xf11.body.fst xf11.body.snd.fst) xf11.body.snd.snd.fst) xf11.body.snd.snd.snd.fst) xf11.body.snd.snd.snd.snd.fst) xf11.body.snd.snd.snd.snd.snd.fst) xf11.body.snd.snd.snd.snd.snd.snd.fst.fst)) tm Store.empty) .normal fun tm σ => tm.length = 63 ∧ XOpd.eval tm (.t 6) = .ptr 2 0 ∧ XOpd.eval tm (.t 7) = .ptr 3 0 ∧ XOpd.eval tm (.t 8) = .ptr 4 0 ∧ XOpd.eval tm (.t 12) = .ptr 6 0 ∧ XOpd.eval tm (.t 13) = .ptr 7 0 ∧
          XOpd.eval tm (.t 34) = .fn 81 [] [.iptr [u, v, .int .i64 r, .int .i64 s.1, .int .i64 s.2] 0, .iptr [w] 0] ∧ σ.next = 8 ∧ σ.get 2 = some (.cells [.nils]) ∧ σ.get 3 = some (.cells [.int .i64 0, .int .i64 0]) ∧ σ.get 4 = some (.cells [.int .i64 0]) ∧ σ.get 6 = some (.cells [.nils]) ∧ σ.get 7 = some (.cells [.int .i64 0, .int .i64 0]) := by
        simp [xf11, XCode.fst, XCode.snd, hl, a0, a1, a2, t83, t91, t92, h0, hp, hL, sceneV, ha.strip, ha.free, ha.one, hb.strip, hb.free, hb.one, Store.empty, Store.new, Store.put, Store.get, look, putL, setR, Store.only, Store.merge, touch, wrote, upTo, isIn, okRec, hits, capsOf, xcaps, stripL, AVal.strip, freeL, AVal.free, fillR, chunks, mkV, List.filter]
      obtain ⟨o1, o2, o3, o4, o5, o6, o7, o8, o9, o10, o11, o12, o13, o14⟩ := out_of eP
      rw [o1, thenC_normal, Run_block]
      generalize outT X _ tm Store.empty = tm1 at *
      generalize outS X _ tm Store.empty = σ1 at *
      rcases range41 hX p ta tb r0 r1 hw hL v1 v2 ⟨o2, o3, o4, o5, o6, o7⟩ o8 o9 o10 o11 o12 o13 o14 with ⟨hz, τ, vs, m0, k1, k2, k3, k4, k5, k6, k7, k8⟩ | ⟨hz, τ, k1, k2, k3, k4⟩
      · have he : runE a b r s l = 0 := by unfold runE; rw [if_neg (by simpa using h0), if_neg (by simpa using hL), hz]
        have hT : Told (RunV a b r s l) (.tup [vs, .agg [.int .i64 (evS a b r s l l.length), .int .i64 (spS a b r s l l.length)], .int .i64 0]) := by
          refine ⟨?_, vs.strip, ?_, ?_⟩
          · have := k6.free; simp [AVal.strip, stripL, AVal.free, freeL, this]
          · unfold runS; rw [if_pos he]; exact k6
          · unfold runX; rw [if_pos he, he]; rfl
        have hone : vs.one = true ∧ vs.cells = [vs] := by rcases k7 with rfl | rfl <;> exact ⟨rfl, rfl⟩
        rw [k1, blockC_normal, thenC_normal]
        have hvo := hone.1
        rcases k7 with rfl | rfl
        · simp [xf11, XCode.fst, XCode.snd, o2, o3, o4, o5, o6, o7, k2, k3, k4, k5, k8, xresult, xrets, givesE, holdsO, hT, put_next, new_next, Store.get_new, Store.get_put, put_get, setR, only_get, merge_get', only_next, merge_next, upTo_self, upTo_one, merge_only, touch, wrote, isIn, okRec, hits, capsOf, xcaps, stripL, AVal.strip, freeL, AVal.free, fillR, chunks, mkV]
        · simp [xf11, XCode.fst, XCode.snd, o2, o3, o4, o5, o6, o7, k2, k3, k4, k5, k8, xresult, xrets, givesE, holdsO, hT, put_next, new_next, Store.get_new, Store.get_put, put_get, setR, only_get, merge_get', only_next, merge_next, upTo_self, upTo_one, merge_only, touch, wrote, isIn, okRec, hits, capsOf, xcaps, stripL, AVal.strip, freeL, AVal.free, fillR, chunks, mkV]
      · have he : runE a b r s l = 22 := by unfold runE; rw [if_neg (by simpa using h0), if_neg (by simpa using hL), hz]
        have hT := none_ok 22 he (by decide)
        rw [k1, blockC_ret, thenC_ret]
        simp [xf11, xresult, xrets, o2, o3, o4, o5, k2, k3, k4, givesE, holdsO, hT, put_next, new_next, Store.get_new, Store.get_put, put_get, setR, only_get, merge_get', only_next, merge_next, upTo_self, upTo_one, merge_only, touch, wrote, isIn, okRec, hits, capsOf, xcaps, stripL, AVal.strip, freeL, AVal.free, fillR, chunks, mkV]
    · have he : runE a b r s l = listErr l := by unfold runE; rw [if_neg (by simpa using h0), if_pos hL]
      have hT := none_ok _ he hL
      simp [xf11, xresult, xrets, hl, a0, a1, a2, t83, t91, h0, hp, hL, sceneV, givesE, holdsO, hT, ha.strip, ha.free, ha.one, hb.strip, hb.free, hb.one, Store.empty, Store.new, Store.put, Store.get, look, putL, setR, Store.only, Store.merge, touch, wrote, upTo, isIn, okRec, hits, capsOf, xcaps, stripL, AVal.strip, freeL, AVal.free, fillR, chunks, mkV, List.filter]
  · have he : runE a b r s l = bothErr a b r s.1 s.2 := by unfold runE; rw [if_pos h0]
    have hT := none_ok _ he h0
    by_cases hp : pairErr a b r = 0 <;> simp [xf11, xresult, xrets, hl, a0, a1, a2, t83, h0, hp, sceneV, givesE, holdsO, hT, ha.strip, ha.free, ha.one, hb.strip, hb.free, hb.one, Store.empty, Store.new, Store.put, Store.get, look, putL, setR, Store.only, Store.merge, touch, wrote, upTo, isIn, okRec, hits, capsOf, xcaps, stripL, AVal.strip, freeL, AVal.free, fillR, chunks, mkV, List.filter]
end
end Go.Proofs.YtbgjmclpahganaaGreat.Eng

/-
  RUNS, F: the reference's errors of flows; copies; the same states.
-/
namespace Go.Proofs.YtbgjmclpahganaaGreat.Eng
set_option linter.unusedSimpArgs false
set_option linter.unusedVariables false
section
variable {X : FuncId → Option XFunc} (hX : RunCode X)
include hX
theorem loop40 {l : List Rdg} {w : AVal} (h : RL l w) (hn : l.length ≤ 1000000) : ∀ (k i : Nat), i + k = l.length → ∀ (tm : List AVal) (σ : Store), tm.length = 22 → XOpd.eval tm (.t 0) = w → XOpd.eval tm (.t 3) = .int .i64 i →
    Ends (Run X (.code (.loop xf15l0)) tm σ) (if (fstIx (ferr l) k i).2 = 0 then .exit 0 else .ret) fun tm' _ => tm'.length = 22 ∧ ((fstIx (ferr l) k i).2 ≠ 0 → XOpd.eval tm' (.t 2) = .int .i64 (fstIx (ferr l) k i).2)
  | 0, i, hk, tm, σ, hl, h0, h3 => by
    rw [Run_loop]
    have hi : ¬ (i : Int) < l.length := by omega
    simp [xf15l0, hl, h0, h3, h.xlen, hi, fstIx]
  | k + 1, i, hk, tm, σ, hl, h0, h3 => by
    have hi : (i : Int) < l.length := by omega
    have hv := h.list (by omega)
    subst hv
    have hw : IntKind.i64.wrap ((i : Int) + 1) = ((i + 1 : Nat) : Int) := by rw [wrap_i64] <;> omega
    have t1 := t38 hX.pair (rat l i).1 (rat l i).2.1 (rat l i).2.2
    have g1 := rds_getElem? (l := l) (i := i) (by omega)
    simp only [Rdg.enc] at g1
    have ef : flErr (rat l i).1 (rat l i).2.1 (rat l i).2.2 = ferr l i := rfl
    rw [ef] at t1
    rw [Run_loop]
    by_cases e : ferr l i = 0
    · have ih := loop40 h hn k (i + 1) (by omega)
      rw [e] at t1
      simp only [fstIx, e, if_true]
      simp [xf15l0, hl, h0, h3, hi, g1, t1, hw, Rdg.enc]
      exact ih _ _ (by simp [hl]) (by simp [hl, h0]) (by simp [hl])
    · simp only [fstIx, e, if_false]
      simp [xf15l0, hl, h0, h3, hi, g1, t1, e, Rdg.enc]
theorem t40 {l : List Rdg} {w : AVal} (h : RL l w) (hn : l.length ≤ 1000000) (σ : Store) : Run X (.call 15) [w] σ = some (.ret, [.int .i64 (listErr l)], σ) := by
  refine call1 (v := .int .i64 (listErr l)) hX.h15 (by rw [h.strip]; exact h.free) (by decide) (fun tm hl h0 => ?_) rfl σ
  rw [h.strip] at h0
  replace hl : tm.length = 22 := hl
  have hL := fun tm σ h1 h2 h3 => out_of (loop40 hX h hn l.length 0 (by omega) tm σ h1 h2 h3)
  unfold Gives
  by_cases c : 200 < l.length
  · have c' : (200 : Int) < l.length := by omega
    simp [xf15, hl, h0, h.xlen, c, c', listErr]
  · have c' : ¬ (200 : Int) < l.length := by omega
    by_cases he : (fstIx (ferr l) l.length 0).2 = 0
    · simp only [he, if_true] at hL
      simp (maxDischargeDepth := 9) [xf15, hl, h0, h.xlen, c, c', listErr, hL, he]
    · simp only [he, if_false] at hL
      simp (maxDischargeDepth := 9) [xf15, hl, h0, h.xlen, c, c', listErr, hL, he]
theorem t42 {l : List Rdg} {v : AVal} (h : RL l v) (hn : l.length ≤ 1000000) (σ : Store) : Run X (.call 13) [v] σ = some (.ret, [.list 3 (rds l) none], σ) := by
  have hs : (AVal.list 3 (rds l) (some 0)).strip = .list 3 (rds l) none := by simp [AVal.strip, rds_strip]
  have := call1 (X := X) (a := v) (v := .list 3 (rds l) (some 0)) hX.h13 (by rw [h.strip]; exact h.free) (by decide) (fun tm hl h1 => ?_) (by rw [hs]; simp [AVal.free, rds_free]) σ
  · rwa [hs] at this
  rw [h.strip] at h1
  replace hl : tm.length = 6 := hl
  have ho := rds_ones l
  have e1 : l.length ≤ 1000000000000 := by omega
  have e2 : l.length * 24 ≤ 1000000000000 := by omega
  unfold Gives
  rcases h with ⟨rfl, rfl⟩ | rfl
  · simp [xf13, hl, h1, xappend, AVal.isSlice, rds, Store.empty, Store.new, Store.put, Store.get, look, putL, setR, Store.only, Store.merge, touch, wrote, upTo, isIn, okRec, hits, capsOf, xcaps, stripL, AVal.strip, freeL, AVal.free, fillR, chunks, mkV, List.filter]
  · cases l with
    | nil => simp [xf13, hl, h1, xappend, AVal.isSlice, rds, ones, Store.empty, Store.new, Store.put, Store.get, look, putL, setR, Store.only, Store.merge, touch, wrote, upTo, isIn, okRec, hits, capsOf, xcaps, stripL, AVal.strip, freeL, AVal.free, fillR, chunks, mkV, List.filter]
    | cons k l =>
      simp only [rds, List.map_cons] at ho
      simp only [List.length_cons] at e1 e2
      simp [xf13, hl, h1, xappend, AVal.isSlice, rds, ho, e1, e2, Store.empty, Store.new, Store.put, Store.get, look, putL, setR, Store.only, Store.merge, touch, wrote, upTo, isIn, okRec, hits, capsOf, xcaps, stripL, AVal.strip, freeL, AVal.free, fillR, chunks, mkV, List.filter]
omit hX in
theorem loop44 {x : List Kn} {v w : AVal} (hv : KL x v) (hw : KL x w) (hn : x.length ≤ 1000000) : ∀ (k i : Nat), i + k = x.length → ∀ (tm : List AVal) (σ : Store), tm.length = 26 → XOpd.eval tm (.t 0) = v → XOpd.eval tm (.t 1) = w → XOpd.eval tm (.t 5) = .int .i64 i →
    Ends (Run X (.code (.loop xf17l0)) tm σ) (.exit 0) fun tm' _ => tm'.length = 26
  | 0, i, hk, tm, σ, hl, h0, h1, h5 => by
    rw [Run_loop]
    have hi : ¬ (i : Int) < x.length := by omega
    simp [xf17l0, hl, h0, h5, hv.xlen, hi]
  | k + 1, i, hk, tm, σ, hl, h0, h1, h5 => by
    have hi : (i : Int) < x.length := by omega
    have hi' : i < x.length := by omega
    have ev := hv.list (by omega); have ew := hw.list (by omega)
    have hwr : IntKind.i64.wrap ((i : Int) + 1) = ((i + 1 : Nat) : Int) := by rw [wrap_i64] <;> omega
    have g1 := kns_getElem? (l := x) (i := i) hi'
    have ih := loop44 hv hw hn k (i + 1) (by omega)
    subst ev; subst ew
    simp only [Kn.enc] at g1
    rw [Run_loop]
    simp [xf17l0, hl, h0, h1, h5, hi, hi', g1, hwr, Kn.enc, put_next, new_next, Store.get_new, Store.get_put, put_get, setR, only_get, merge_get', only_next, merge_next, upTo_self, upTo_one, merge_only, touch, wrote, isIn, okRec, hits, capsOf, xcaps, stripL, AVal.strip, freeL, AVal.free, fillR, chunks, mkV]
    exact ih _ _ (by simp [hl]) (by simp [hl, h0]) (by simp [hl, h1]) (by simp [hl])
/-- The same states are the same. -/
theorem t44 {x : List Kn} {v w : AVal} (hv : KL x v) (hw : KL x w) (hn : x.length ≤ 1000000) (σ : Store) : Run X (.call 17) [v, w] σ = some (.ret, [.bool true], σ) := by
  refine call2 (v := .bool true) hX.h17 (by rw [hv.strip]; exact hv.free) (by rw [hw.strip]; exact hw.free) (by decide) (fun tm hl h0 h1 => ?_) rfl σ
  rw [hv.strip] at h0
  rw [hw.strip] at h1
  replace hl : tm.length = 26 := hl
  have hL := fun tm σ a1 a2 a3 a4 => out_of (loop44 (X := X) hv hw hn x.length 0 (by omega) tm σ a1 a2 a3 a4)
  unfold Gives
  simp (maxDischargeDepth := 9) [xf17, hl, h0, h1, hv.xlen, hw.xlen, hL]
end

/-! A run, in two parts; what is kept. -/
theorem rat_take {l : List Rdg} {h j : Nat} (hj : j < h) : rat (l.take h) j = rat l j := by
  unfold rat
  rw [List.getD_eq_getElem?_getD, List.getD_eq_getElem?_getD, List.getElem?_take_of_lt hj]
theorem rat_drop {l : List Rdg} {h j : Nat} : rat (l.drop h) j = rat l (h + j) := by
  unfold rat
  rw [List.getD_eq_getElem?_getD, List.getD_eq_getElem?_getD, List.getElem?_drop]
theorem stN_take {a b : List Kn} {r : Int} {s : Kn} {l : List Rdg} {h : Nat} : ∀ {j : Nat}, j ≤ h → stN a b r s (l.take h) j = stN a b r s l j
  | 0, _ => rfl
  | j + 1, hj => by
    have ih := stN_take (a := a) (b := b) (r := r) (s := s) (l := l) (h := h) (j := j) (by omega)
    simp only [stN, ih, rat_take (show j < h by omega)]
theorem stN_drop {a b : List Kn} {r : Int} {s : Kn} {l : List Rdg} {h : Nat} : ∀ {j : Nat}, stN a b r (stN a b r s l h) (l.drop h) j = stN a b r s l (h + j)
  | 0 => rfl
  | j + 1 => by
    have ih := stN_drop (a := a) (b := b) (r := r) (s := s) (l := l) (h := h) (j := j)
    show nx a b r _ _ = nx a b r _ _
    rw [ih, rat_drop]; rfl
theorem sts_take {a b : List Kn} {r : Int} {s : Kn} {l : List Rdg} {h : Nat} : ∀ {j : Nat}, j ≤ h → sts a b r s (l.take h) j = sts a b r s l j
  | 0, _ => rfl
  | j + 1, hj => by
    have ih := sts_take (a := a) (b := b) (r := r) (s := s) (l := l) (h := h) (j := j) (by omega)
    simp only [sts, ih, stN_take hj]
theorem sts_drop {a b : List Kn} {r : Int} {s : Kn} {l : List Rdg} {h : Nat} : ∀ {j : Nat}, sts a b r s l (h + j) = sts a b r s l h ++ sts a b r (stN a b r s l h) (l.drop h) j
  | 0 => by simp [sts]
  | j + 1 => by
    have ih := sts_drop (a := a) (b := b) (r := r) (s := s) (l := l) (h := h) (j := j)
    rw [← Nat.add_assoc]
    simp only [sts, ih, stN_drop, ← Nat.add_assoc, List.append_assoc]
theorem evS_take {a b : List Kn} {r : Int} {s : Kn} {l : List Rdg} {h : Nat} : ∀ {j : Nat}, j ≤ h → evS a b r s (l.take h) j = evS a b r s l j
  | 0, _ => rfl
  | j + 1, hj => by
    have ih := evS_take (a := a) (b := b) (r := r) (s := s) (l := l) (h := h) (j := j) (by omega)
    simp only [evS, ih, stN_take (show j ≤ h by omega)]
theorem spS_take {a b : List Kn} {r : Int} {s : Kn} {l : List Rdg} {h : Nat} : ∀ {j : Nat}, j ≤ h → spS a b r s (l.take h) j = spS a b r s l j
  | 0, _ => rfl
  | j + 1, hj => by
    have ih := spS_take (a := a) (b := b) (r := r) (s := s) (l := l) (h := h) (j := j) (by omega)
    simp only [spS, ih, stN_take (show j ≤ h by omega), rat_take (show j < h by omega)]
theorem evS_drop {a b : List Kn} {r : Int} {s : Kn} {l : List Rdg} {h : Nat} : ∀ {j : Nat}, evS a b r s l (h + j) = evS a b r s l h + evS a b r (stN a b r s l h) (l.drop h) j
  | 0 => by simp [evS]
  | j + 1 => by
    have ih := evS_drop (a := a) (b := b) (r := r) (s := s) (l := l) (h := h) (j := j)
    rw [← Nat.add_assoc]
    simp only [evS, stN_drop]
    omega
theorem spS_drop {a b : List Kn} {r : Int} {s : Kn} {l : List Rdg} {h : Nat} : ∀ {j : Nat}, spS a b r s l (h + j) = spS a b r s l h + spS a b r (stN a b r s l h) (l.drop h) j
  | 0 => by simp [spS]
  | j + 1 => by
    have ih := spS_drop (a := a) (b := b) (r := r) (s := s) (l := l) (h := h) (j := j)
    rw [← Nat.add_assoc]
    simp only [spS, stN_drop, rat_drop]
    omega
theorem sts_kat {a b : List Kn} {r : Int} {s : Kn} {l : List Rdg} : ∀ {k j : Nat}, j < k → kat (sts a b r s l k) j = stN a b r s l (j + 1)
  | 0, j, hj => by omega
  | k + 1, j, hj => by
    unfold kat
    simp only [sts]
    by_cases e : j = k
    · subst e
      rw [List.getD_eq_getElem?_getD, List.getElem?_append_right (by simp)]
      simp
    · rw [List.getD_eq_getElem?_getD, List.getElem?_append_left (by simp; omega)]
      have := sts_kat (a := a) (b := b) (r := r) (s := s) (l := l) (k := k) (j := j) (by omega)
      unfold kat at this
      rw [List.getD_eq_getElem?_getD] at this
      exact this
/-- What flowed in. -/
def inS (l : List Rdg) : Nat → Int
  | 0 => 0
  | i + 1 => inS l i + (rat l i).1 + (rat l i).2.1
theorem nx_kept (a b : List Kn) (r : Int) (s : Kn) (f : Rdg) : (nx a b r s f).1 + (nx a b r s f).2 + evN a b r s + spN a b r s f = s.1 + s.2 + f.1 + f.2.1 := by
  unfold nx evN spN capV spV upV
  repeat' split
  all_goals (simp only; omega)
theorem kept (a b : List Kn) (r : Int) (s : Kn) (l : List Rdg) : ∀ i, (stN a b r s l i).1 + (stN a b r s l i).2 + evS a b r s l i + spS a b r s l i = s.1 + s.2 + inS l i
  | 0 => by simp [stN, evS, spS, inS]
  | i + 1 => by
    have := kept a b r s l i
    have k := nx_kept a b r (stN a b r s l i) (rat l i)
    simp only [stN, evS, spS, inS]
    omega
end Go.Proofs.YtbgjmclpahganaaGreat.Eng
