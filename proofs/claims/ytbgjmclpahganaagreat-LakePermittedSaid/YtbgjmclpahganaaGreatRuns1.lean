/-
  RUNS of the reference.
-/
import Derived.Test.YtbgjmclpahganaaGreatRun1
import Derived.Test.YtbgjmclpahganaaGreatCode1
namespace Go.Proofs.YtbgjmclpahganaaGreat.Eng
set_option linter.unusedSimpArgs false
set_option linter.unusedVariables false
/-- How many steps are possible. -/
def runN (a b : List Kn) (r : Int) (s : Kn) (l : List Rdg) : Nat → Nat → Nat
  | 0, i => i
  | k + 1, i => if seA a b r (stN a b r s l i) (rat l i) = 0 then runN a b r s l k (i + 1) else i
theorem runN_le (a b : List Kn) (r : Int) (s : Kn) (l : List Rdg) : ∀ k i, i ≤ runN a b r s l k i ∧ runN a b r s l k i ≤ i + k
  | 0, i => ⟨Nat.le_refl _, Nat.le_refl _⟩
  | k + 1, i => by
    have := runN_le a b r s l k (i + 1)
    unfold runN; split <;> omega
theorem runN_ok (a b : List Kn) (r : Int) (s : Kn) (l : List Rdg) : ∀ k i, (∀ j, i ≤ j → j < runN a b r s l k i → seA a b r (stN a b r s l j) (rat l j) = 0) ∧ (runN a b r s l k i < i + k → seA a b r (stN a b r s l (runN a b r s l k i)) (rat l (runN a b r s l k i)) ≠ 0)
  | 0, i => ⟨fun j h1 h2 => by simp only [runN] at h2; omega, fun h => by simp only [runN] at h; omega⟩
  | k + 1, i => by
    obtain ⟨h1, h2⟩ := runN_ok a b r s l k (i + 1)
    unfold runN
    split
    · rename_i hz
      refine ⟨fun j j1 j2 => ?_, fun h => h2 (by omega)⟩
      by_cases e : j = i
      · subst e; exact hz
      · exact h1 j (by omega) j2
    · rename_i hz
      exact ⟨fun j j1 j2 => by omega, fun _ => hz⟩
theorem OutE_list {e : Nat} {σ : Store} {m0 : Nat} {xs : List Kn} {ys : List AVal} {j : Nat} : OutE e σ m0 xs (.list 2 ys (some j)) ↔ m0 ≤ j ∧ j < σ.next ∧ ys = kns xs ∧ σ.get j = some (.tok e 2 xs.length) := by
  constructor
  · rintro (⟨h, _⟩ | ⟨k, h1, h2, h3, h4⟩)
    · cases h
    · cases h3; exact ⟨h1, h2, rfl, h4⟩
  · rintro ⟨h1, h2, rfl, h4⟩
    exact .inr ⟨j, h1, h2, rfl, h4⟩
theorem OutE_nils {e : Nat} {σ : Store} {m0 : Nat} {xs : List Kn} : OutE e σ m0 xs .nils ↔ xs = [] := by
  constructor
  · rintro (⟨_, h⟩ | ⟨k, h1, h2, h3, h4⟩)
    · exact h
    · cases h3
  · rintro rfl; exact .inl ⟨rfl, rfl⟩
structure Fr16 (w : AVal) (tm : List AVal) : Prop where
  len : tm.length = 54
  t2 : XOpd.eval tm (.t 2) = w
  t3 : XOpd.eval tm (.t 3) = .ptr 0 0
  t4 : XOpd.eval tm (.t 4) = .ptr 1 0
  t7 : XOpd.eval tm (.t 7) = .ptr 2 0
  t10 : XOpd.eval tm (.t 10) = .ptr 3 0
structure Me16 (u v : AVal) (r : Int) (s z : Kn) (σ : Store) : Prop where
  nx : 4 ≤ σ.next
  g0 : σ.get 0 = some (.cells [u, v, .int .i64 r])
  g1 : σ.get 1 = some (.cells [.int .i64 s.1, .int .i64 s.2])
  g2 : σ.get 2 = some (.cells [.int .i64 0, .int .i64 0])
  g3 : σ.get 3 = some (.cells [.int .i64 z.1, .int .i64 z.2])
section
variable {X : FuncId → Option XFunc} (hX : VRunsCode X)
include hX
theorem z10 (n : Int) (σ : Store) : Run X (.call 10) [.int .i64 n] σ = some (.ret, [.bool (decide (n ≤ 24) || (decide (200 < n) && decide (n ≤ 202)))], σ) := by
  refine call1 (v := .bool (decide (n ≤ 24) || (decide (200 < n) && decide (n ≤ 202)))) hX.h10 rfl (by decide) (fun tm hl h0 => ?_) rfl σ
  simp only [AVal.strip] at h0
  replace hl : tm.length = 13 := hl
  unfold Gives
  by_cases c1 : n ≤ 24
  · simp [xf10, hl, h0, c1, Store.empty, Store.new, Store.put, Store.get, look, putL, setR, Store.only, Store.merge, touch, wrote, upTo, isIn, okRec, hits, capsOf, xcaps, stripL, AVal.strip, freeL, AVal.free, fillR, chunks, mkV, List.filter]
  · by_cases c2 : 200 < n <;> simp [xf10, hl, h0, c1, c2, Store.empty, Store.new, Store.put, Store.get, look, putL, setR, Store.only, Store.merge, touch, wrote, upTo, isIn, okRec, hits, capsOf, xcaps, stripL, AVal.strip, freeL, AVal.free, fillR, chunks, mkV, List.filter]

set_option maxHeartbeats 4000000 in
theorem loop16 {a b : List Kn} {u v : AVal} (p : PV a b u v) (ta : Tab a) (tb : Tab b) {r : Int} (r0 : 0 ≤ r) (r1 : r ≤ 1000) {s : Kn} (v1 : isVol a s.1 = true) (v2 : isVol b s.2 = true) {l : List Rdg} {w : AVal} (hw : RL l w) (hn : l.length ≤ 200) (hf : ∀ i, i < l.length → ferr l i = 0) :
    ∀ (k i : Nat), i + k = l.length → (∀ j, j < i → seA a b r (stN a b r s l j) (rat l j) = 0) → ∀ (tm : List AVal) (σ : Store), Fr16 w tm → XOpd.eval tm (.t 11) = .int .i64 i → OutE 28 σ 4 (sts a b r s l i) (XOpd.eval tm (.t 9)) → Me16 u v r (stN a b r s l i) (evS a b r s l i, spS a b r s l i) σ →
    Ends (Run X (.code (.loop xf16l0)) tm σ) (if runN a b r s l k i = l.length then .exit 0 else .ret) fun tm' σ' => tm'.length = 54 ∧ (runN a b r s l k i = l.length → XOpd.eval tm' (.t 7) = .ptr 2 0 ∧ XOpd.eval tm' (.t 10) = .ptr 3 0 ∧ OutE 28 σ' 4 (sts a b r s l (runN a b r s l k i)) (XOpd.eval tm' (.t 9)) ∧ σ'.get 2 = some (.cells [.int .i64 0, .int .i64 0]) ∧ σ'.get 3 = some (.cells [.int .i64 (evS a b r s l (runN a b r s l k i)), .int .i64 (spS a b r s l (runN a b r s l k i))])) ∧
      (runN a b r s l k i ≠ l.length → XOpd.eval tm' (.t 7) = .ptr 2 0 ∧ XOpd.eval tm' (.t 8) = .bool false ∧ OutE 28 σ' 4 (sts a b r s l (runN a b r s l k i)) (XOpd.eval tm' (.t 6)) ∧ σ'.get 2 = some (.cells [.int .i64 (evS a b r s l (runN a b r s l k i)), .int .i64 (spS a b r s l (runN a b r s l k i))]))
  | 0, i, hk, hz, tm, σ, fr, h11, h9, me => by
    have e : i = l.length := by omega
    subst e
    have hl := fr.len; have h2 := fr.t2; have h7 := fr.t7; have h10 := fr.t10; have g2 := me.g2; have g3 := me.g3
    rw [Run_loop]
    simp only [runN, if_true]
    simp [xf16l0, hl, h2, h11, hw.xlen, h7, h10, h9, g2, g3]
  | k + 1, i, hk, hz, tm, σ, fr, h11, h9, me => by
    have hi : i < l.length := by omega
    have hi' : (i : Int) < l.length := by omega
    have hwl := hw.list (by omega)
    have hl := fr.len; have h2 := fr.t2; have h3 := fr.t3; have h4 := fr.t4; have h7 := fr.t7; have h10 := fr.t10
    have g0 := me.g0; have g1 := me.g1; have g2 := me.g2; have g3 := me.g3; have nx4 := me.nx
    obtain ⟨N, hN⟩ : ∃ N, σ.next = N + 4 := ⟨σ.next - 4, by omega⟩
    obtain ⟨w1, w2⟩ := stN_vol ta tb v1 v2 (i := i) (l := l) (r := r) hz
    have hb : bothErr a b r (stN a b r s l i).1 (stN a b r s l i).2 = 0 := by
      simp [bothErr, pairErr, ta.err, tb.err, w1, w2, wi, r0, r1]
    have hfi : flErr (rat l i).1 (rat l i).2.1 (rat l i).2.2 = 0 := hf i hi
    have t39 := t39 hX.run.pair p hb hfi
    have hst : stepE a b r (stN a b r s l i).1 (stN a b r s l i).2 (rat l i).1 (rat l i).2.1 (rat l i).2.2 = seA a b r (stN a b r s l i) (rat l i) := rfl
    rw [hst] at t39
    have q1 := rds_getElem? (l := l) (i := i) hi
    simp only [Rdg.enc] at q1
    have ha := p.ka; have hb' := p.kb
    rw [hwl] at h2
    by_cases hzi : seA a b r (stN a b r s l i) (rat l i) = 0
    · have hS : stepS a b r (stN a b r s l i).1 (stN a b r s l i).2 (rat l i).1 (rat l i).2.1 (rat l i).2.2 = [.int .i64 (nx a b r (stN a b r s l i) (rat l i)).1, .int .i64 (nx a b r (stN a b r s l i) (rat l i)).2] := by simp [stepS, hst, hzi, nx]
      have hL : stepL a b r (stN a b r s l i).1 (stN a b r s l i).2 (rat l i).1 (rat l i).2.1 (rat l i).2.2 = [.int .i64 (evN a b r (stN a b r s l i)), .int .i64 (spN a b r (stN a b r s l i) (rat l i))] := by simp [stepL, hst, hzi, evN, spN]
      rw [hS, hL, hzi] at t39
      have sm := sums_in ta tb r0 r1 v1 v2 hf (i := i + 1) (by omega) (fun j hj => hz j (by omega))
      have ew : IntKind.i64.wrap (evS a b r s l i + evN a b r (stN a b r s l i)) = evS a b r s l (i + 1) := by
        have e : evS a b r s l (i + 1) = evS a b r s l i + evN a b r (stN a b r s l i) := rfl
        rw [e] at sm ⊢
        rw [wrap_i64] <;> omega
      have pw : IntKind.i64.wrap (spS a b r s l i + spN a b r (stN a b r s l i) (rat l i)) = spS a b r s l (i + 1) := by
        have e : spS a b r s l (i + 1) = spS a b r s l i + spN a b r (stN a b r s l i) (rat l i) := rfl
        rw [e] at sm ⊢
        rw [wrap_i64] <;> omega
      have hwr : IntKind.i64.wrap ((i : Int) + 1) = ((i + 1 : Nat) : Int) := by rw [wrap_i64] <;> omega
      have ih := loop16 p ta tb r0 r1 v1 v2 hw hn hf k (i + 1) (by omega) (fun j hj => by
        by_cases e : j = i
        · subst e; exact hzi
        · exact hz j (by omega))
      have hrn : runN a b r s l (k + 1) i = runN a b r s l k (i + 1) := by simp only [runN, hzi, if_true]
      rw [hrn]
      have key : Ends (Run X (.code xf16l0) tm σ) .normal fun tm' σ' => Fr16 w tm' ∧ XOpd.eval tm' (.t 11) = .int .i64 ((i + 1 : Nat) : Int) ∧ OutE 28 σ' 4 (sts a b r s l (i + 1)) (XOpd.eval tm' (.t 9)) ∧ Me16 u v r (nx a b r (stN a b r s l i) (rat l i)) (evS a b r s l (i + 1), spS a b r s l (i + 1)) σ' := by
        have hfr : ∀ tm', Fr16 w tm' ↔ tm'.length = 54 ∧ XOpd.eval tm' (.t 2) = .list 3 (rds l) none ∧ XOpd.eval tm' (.t 3) = .ptr 0 0 ∧ XOpd.eval tm' (.t 4) = .ptr 1 0 ∧ XOpd.eval tm' (.t 7) = .ptr 2 0 ∧ XOpd.eval tm' (.t 10) = .ptr 3 0 := fun tm' => ⟨fun h => ⟨h.len, by rw [h.t2, hwl], h.t3, h.t4, h.t7, h.t10⟩, fun ⟨x1, x2, x3, x4, x5, x6⟩ => ⟨x1, by rw [x2, hwl], x3, x4, x5, x6⟩⟩
        have hme : ∀ σ', Me16 u v r (nx a b r (stN a b r s l i) (rat l i)) (evS a b r s l (i + 1), spS a b r s l (i + 1)) σ' ↔ 4 ≤ σ'.next ∧ σ'.get 0 = some (.cells [u, v, .int .i64 r]) ∧ σ'.get 1 = some (.cells [.int .i64 (nx a b r (stN a b r s l i) (rat l i)).1, .int .i64 (nx a b r (stN a b r s l i) (rat l i)).2]) ∧ σ'.get 2 = some (.cells [.int .i64 0, .int .i64 0]) ∧ σ'.get 3 = some (.cells [.int .i64 (evS a b r s l (i + 1)), .int .i64 (spS a b r s l (i + 1))]) := fun σ' => ⟨fun h => ⟨h.nx, h.g0, h.g1, h.g2, h.g3⟩, fun ⟨x1, x2, x3, x4, x5⟩ => ⟨x1, x2, x3, x4, x5⟩⟩
        simp only [hfr, hme]
        rcases h9 with ⟨h9, hs0⟩ | ⟨j, j1, j2, h9, j4⟩
        · simp [xf16l0, hl, h2, h3, h4, h7, h10, h9, h11, g0, g1, g2, g3, hi, hi', q1, t39, ew, pw, hwr, hN, Rdg.enc, Kn.enc, ha.one, ha.strip, ha.free, hb'.one, hb'.strip, hb'.free, xappend, ones, AVal.one, OutE_list, OutE_nils, sts, hs0, kns, stN, put_next, new_next, Store.get_new, Store.get_put, put_get, setR, only_get, merge_get', only_next, merge_next, upTo_self, upTo_one, merge_only, touch, wrote, isIn, okRec, hits, capsOf, xcaps, stripL, AVal.strip, freeL, AVal.free, fillR, chunks, mkV]
          done
        · have n1 : ¬ j = N + 4 := by omega
          have n2 : ¬ N + 4 = j := by omega
          have n3 : ¬ j = N + 4 + 1 := by omega
          have n4 : ¬ N + 4 + 1 = j := by omega
          have n5 : ¬ j = N + 4 + 1 + 1 := by omega
          have n6 : ¬ N + 4 + 1 + 1 = j := by omega
          have n7 : ¬ j = N + 4 + 1 + 1 + 1 := by omega
          have n8 : ¬ N + 4 + 1 + 1 + 1 = j := by omega
          have n9 : ¬ j = 0 := by omega
          have n10 : ¬ 0 = j := by omega
          have n11 : ¬ j = 1 := by omega
          have n12 : ¬ 1 = j := by omega
          have n13 : ¬ j = 2 := by omega
          have n14 : ¬ 2 = j := by omega
          have n15 : ¬ j = 3 := by omega
          have n16 : ¬ 3 = j := by omega
          have b1 : (i + 1) * 16 ≤ 1000000000000 := by omega
          have b2 : i ≤ 999999999999 := by omega
          have b3 : j < N + 4 := by omega
          have b4 : 4 ≤ j := j1
          have b5 : j < N + 4 + 1 + 1 + 1 := by omega
          simp [xf16l0, hl, h2, h3, h4, h7, h10, h9, h11, g0, g1, g2, g3, hi, hi', q1, t39, ew, pw, hwr, hN, Rdg.enc, Kn.enc, ha.one, ha.strip, ha.free, hb'.one, hb'.strip, hb'.free, j4, b1, b2, b3, b4, b5, n1, n2, n3, n4, n5, n6, n7, n8, n9, n10, n11, n12, n13, n14, n15, n16, xappend, ones, AVal.one, OutE_list, OutE_nils, sts, kns, stN, put_next, new_next, Store.get_new, Store.get_put, put_get, setR, only_get, merge_get', only_next, merge_next, upTo_self, upTo_one, merge_only, touch, wrote, isIn, okRec, hits, capsOf, xcaps, stripL, AVal.strip, freeL, AVal.free, fillR, chunks, mkV]
          done
      obtain ⟨o1, o2, o3, o4, o5⟩ := out_of key
      rw [Run_loop, o1, thenC_normal]
      exact ih _ _ o2 o3 o4 o5
    · have hS : stepS a b r (stN a b r s l i).1 (stN a b r s l i).2 (rat l i).1 (rat l i).2.1 (rat l i).2.2 = [.int .i64 0, .int .i64 0] := by simp [stepS, hst, hzi]
      have hL : stepL a b r (stN a b r s l i).1 (stN a b r s l i).2 (rat l i).1 (rat l i).2.1 (rat l i).2.2 = [.int .i64 0, .int .i64 0] := by simp [stepL, hst, hzi]
      rw [hS, hL] at t39
      have hrn : runN a b r s l (k + 1) i = i := by simp only [runN, hzi, if_false]
      have hne : ¬ i = l.length := by omega
      rw [hrn, if_neg hne, Run_loop]
      simp only [hne, false_implies, true_and, ne_eq, not_false_eq_true, true_implies]
      rcases h9 with ⟨h9, hs0⟩ | ⟨j, j1, j2, h9, j4⟩
      · simp [xf16l0, hl, h2, h3, h4, h7, h10, h9, h11, g0, g1, g2, g3, hi, hi', q1, t39, hzi, hN, Rdg.enc, Kn.enc, ha.one, ha.strip, ha.free, hb'.one, hb'.strip, hb'.free, OutE_list, OutE_nils, sts, hs0, put_next, new_next, Store.get_new, Store.get_put, put_get, setR, only_get, merge_get', only_next, merge_next, upTo_self, upTo_one, merge_only, touch, wrote, isIn, okRec, hits, capsOf, xcaps, stripL, AVal.strip, freeL, AVal.free, fillR, chunks, mkV]
        done
      · have n1 : ¬ j = N + 4 := by omega
        have n2 : ¬ N + 4 = j := by omega
        have n3 : ¬ j = N + 4 + 1 := by omega
        have n4 : ¬ N + 4 + 1 = j := by omega
        have n5 : ¬ j = N + 4 + 1 + 1 := by omega
        have n6 : ¬ N + 4 + 1 + 1 = j := by omega
        have n7 : ¬ j = N + 4 + 1 + 1 + 1 := by omega
        have n8 : ¬ N + 4 + 1 + 1 + 1 = j := by omega
        have n9 : ¬ j = 0 := by omega
        have n10 : ¬ 0 = j := by omega
        have n11 : ¬ j = 1 := by omega
        have n12 : ¬ 1 = j := by omega
        have n13 : ¬ j = 2 := by omega
        have n14 : ¬ 2 = j := by omega
        have n15 : ¬ j = 3 := by omega
        have n16 : ¬ 3 = j := by omega
        have b3 : j < N + 4 + 1 + 1 := by omega
        have b4 : 4 ≤ j := j1
        simp [xf16l0, hl, h2, h3, h4, h7, h10, h9, h11, g0, g1, g2, g3, hi, hi', q1, t39, hzi, hN, Rdg.enc, Kn.enc, ha.one, ha.strip, ha.free, hb'.one, hb'.strip, hb'.free, j4, b3, b4, n1, n2, n3, n4, n5, n6, n7, n8, n9, n10, n11, n12, n13, n14, n15, n16, OutE_list, OutE_nils, put_next, new_next, Store.get_new, Store.get_put, put_get, setR, only_get, merge_get', only_next, merge_next, upTo_self, upTo_one, merge_only, touch, wrote, isIn, okRec, hits, capsOf, xcaps, stripL, AVal.strip, freeL, AVal.free, fillR, chunks, mkV]
        done
def RefV (a b : List Kn) (r : Int) (s : Kn) (l : List Rdg) (z : AVal) : Prop := ∃ vs, KL (sts a b r s l (runN a b r s l l.length 0)) vs ∧ z = .tup [vs, .agg [.int .i64 (evS a b r s l (runN a b r s l l.length 0)), .int .i64 (spS a b r s l (runN a b r s l l.length 0))], .bool (decide (runN a b r s l l.length 0 = l.length))]
theorem z16 {a b : List Kn} {u v : AVal} (p : PV a b u v) {r : Int} {s : Kn} (h0 : bothErr a b r s.1 s.2 = 0) {l : List Rdg} {w : AVal} (hw : RL l w) (hL : listErr l = 0) :
    ∃ z, RefV a b r s l z ∧ ∀ σ, Run X (.call 16) [.agg [u, v, .int .i64 r], .agg [.int .i64 s.1, .int .i64 s.2], w] σ = some (.ret, [z], σ) := by
  have ha := p.ka; have hb := p.kb
  obtain ⟨ta, tb, r0, r1, v1, v2⟩ := both_ok h0
  obtain ⟨hl1, hf⟩ := list_ok hL
  refine call3E hX.h16 (by simp [AVal.strip, stripL, AVal.free, freeL, ha.strip, ha.free, hb.strip, hb.free]) rfl (by rw [hw.strip]; exact hw.free) (by decide) (fun tm hl a0 a1 a2 => ?_)
  simp only [AVal.strip, stripL, ha.strip, hb.strip] at a0 a1
  rw [hw.strip] at a2
  replace hl : tm.length = 54 := hl
  have hfr : ∀ tm', Fr16 w tm' ↔ tm'.length = 54 ∧ XOpd.eval tm' (.t 2) = w ∧ XOpd.eval tm' (.t 3) = .ptr 0 0 ∧ XOpd.eval tm' (.t 4) = .ptr 1 0 ∧ XOpd.eval tm' (.t 7) = .ptr 2 0 ∧ XOpd.eval tm' (.t 10) = .ptr 3 0 := fun tm' => ⟨fun h => ⟨h.len, h.t2, h.t3, h.t4, h.t7, h.t10⟩, fun ⟨x1, x2, x3, x4, x5, x6⟩ => ⟨x1, x2, x3, x4, x5, x6⟩⟩
  have hme : ∀ σ', Me16 u v r (stN a b r s l 0) (evS a b r s l 0, spS a b r s l 0) σ' ↔ 4 ≤ σ'.next ∧ σ'.get 0 = some (.cells [u, v, .int .i64 r]) ∧ σ'.get 1 = some (.cells [.int .i64 s.1, .int .i64 s.2]) ∧ σ'.get 2 = some (.cells [.int .i64 0, .int .i64 0]) ∧ σ'.get 3 = some (.cells [.int .i64 0, .int .i64 0]) := fun σ' => ⟨fun h => ⟨h.nx, h.g0, h.g1, h.g2, h.g3⟩, fun ⟨x1, x2, x3, x4, x5⟩ => ⟨x1, x2, x3, x4, x5⟩⟩
  have key : ∀ vs, ∀ c : Bool, c = decide (runN a b r s l l.length 0 = l.length) → (vs = .nils ∨ ∃ j, vs = .list 2 (kns (sts a b r s l (runN a b r s l l.length 0))) (some j)) → KL (sts a b r s l (runN a b r s l l.length 0)) vs.strip → Told (RefV a b r s l) (.tup [vs, .agg [.int .i64 (evS a b r s l (runN a b r s l l.length 0)), .int .i64 (spS a b r s l (runN a b r s l l.length 0))], .bool c]) := by
    rintro vs c rfl h1 h2
    refine ⟨?_, vs.strip, h2, ?_⟩
    · have := h2.free; simp [AVal.strip, stripL, AVal.free, freeL, this]
    · simp [AVal.strip, stripL]
  have e0 : xf16.body = .seq xf16.body.fst (.seq xf16.body.snd.fst (.seq xf16.body.snd.snd.fst (.seq (.seq xf16.body.snd.snd.snd.fst.fst (.block 0 (.loop xf16l0))) xf16.body.snd.snd.snd.snd))) := rfl
  unfold GivesE
  rw [e0, seq_left, seq_left, seq_left, Run_seq, seq_left, Run_seq]
  have eP : Ends (Run X (.code (.seq (.seq (.seq xf16.body.fst xf16.body.snd.fst) xf16.body.snd.snd.fst) xf16.body.snd.snd.snd.fst.fst)) tm Store.empty) .normal fun tm σ => Fr16 w tm ∧ XOpd.eval tm (.t 11) = .int .i64 (0 : Nat) ∧ OutE 28 σ 4 (sts a b r s l 0) (XOpd.eval tm (.t 9)) ∧ Me16 u v r (stN a b r s l 0) (evS a b r s l 0, spS a b r s l 0) σ := by
    simp [hfr, hme, xf16, XCode.fst, XCode.snd, hl, a0, a1, a2, OutE_nils, sts, ha.strip, ha.free, ha.one, hb.strip, hb.free, hb.one, Store.empty, Store.new, Store.put, Store.get, look, putL, setR, Store.only, Store.merge, touch, wrote, upTo, isIn, okRec, hits, capsOf, xcaps, stripL, AVal.strip, freeL, AVal.free, fillR, chunks, mkV, List.filter]
  obtain ⟨o1, o2, o3, o4, o5⟩ := out_of eP
  obtain ⟨q1, q2, q3, q4⟩ := out_of (loop16 hX p ta tb r0 r1 v1 v2 hw hl1 hf l.length 0 (by omega) (by omega) _ _ o2 o3 o4 o5)
  rw [o1, thenC_normal, Run_block, q1]
  generalize outT X (.loop xf16l0) _ _ = tm1 at *
  generalize outS X (.loop xf16l0) _ _ = σ1 at *
  generalize runN a b r s l l.length 0 = n at *
  by_cases hn : n = l.length
  · obtain ⟨k1, k2, k3, k4, k5⟩ := q3 hn
    rw [if_pos hn]
    have kk := k3.strip
    rcases k3 with ⟨k3, k6⟩ | ⟨j, j1, j2, k3, j4⟩
    · rw [k3] at kk
      have hT := key .nils true (by simp [hn]) (.inl rfl) kk
      simp [xf16, XCode.fst, XCode.snd, q2, k1, k2, k3, k4, k5, hT, xresult, xrets, givesE, holdsO, put_next, new_next, Store.get_new, Store.get_put, put_get, setR, only_get, merge_get', only_next, merge_next, upTo_self, upTo_one, merge_only, touch, wrote, isIn, okRec, hits, capsOf, xcaps, stripL, AVal.strip, freeL, AVal.free, fillR, chunks, mkV]
    · rw [k3] at kk
      have hT := key _ true (by simp [hn]) (.inr ⟨j, rfl⟩) kk
      simp [xf16, XCode.fst, XCode.snd, q2, k1, k2, k3, k4, k5, hT, xresult, xrets, givesE, holdsO, put_next, new_next, Store.get_new, Store.get_put, put_get, setR, only_get, merge_get', only_next, merge_next, upTo_self, upTo_one, merge_only, touch, wrote, isIn, okRec, hits, capsOf, xcaps, stripL, AVal.strip, freeL, AVal.free, fillR, chunks, mkV]
  · obtain ⟨k1, k2, k3, k4⟩ := q4 hn
    rw [if_neg hn]
    have kk := k3.strip
    rcases k3 with ⟨k3, k6⟩ | ⟨j, j1, j2, k3, j4⟩
    · rw [k3] at kk
      have hT := key .nils false (by simp [hn]) (.inl rfl) kk
      simp [xf16, XCode.fst, XCode.snd, q2, k1, k2, k3, k4, hT, xresult, xrets, givesE, holdsO, put_next, new_next, Store.get_new, Store.get_put, put_get, setR, only_get, merge_get', only_next, merge_next, upTo_self, upTo_one, merge_only, touch, wrote, isIn, okRec, hits, capsOf, xcaps, stripL, AVal.strip, freeL, AVal.free, fillR, chunks, mkV]
    · rw [k3] at kk
      have hT := key _ false (by simp [hn]) (.inr ⟨j, rfl⟩) kk
      simp [xf16, XCode.fst, XCode.snd, q2, k1, k2, k3, k4, hT, xresult, xrets, givesE, holdsO, put_next, new_next, Store.get_new, Store.get_put, put_get, setR, only_get, merge_get', only_next, merge_next, upTo_self, upTo_one, merge_only, touch, wrote, isIn, okRec, hits, capsOf, xcaps, stripL, AVal.strip, freeL, AVal.free, fillR, chunks, mkV]
end
end Go.Proofs.YtbgjmclpahganaaGreat.Eng
