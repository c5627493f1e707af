/-
  PERMITTED: for how many ticks the last flows are permitted.
-/
import Derived.Test.YtbgjmclpahganaaGreatVio1
import Derived.Test.YtbgjmclpahganaaGreatCode2
import Derived.Test.YtbgjmclpahganaaGreatEng1
namespace Go.Proofs.YtbgjmclpahganaaGreat.Eng
set_option linter.unusedSimpArgs false
set_option linter.unusedVariables false
theorem endR_one {a b : List Kn} {r : Int} {s : Kn} {l : List Rdg} {L M : Lim} : ∀ (k i : Nat), (endR a b r s l L M k i).1 = match fv a b L M (stN a b r s l) (runN a b r s l k i - i) (i + 1) with
    | some (t, q) => t - 1
    | none => runN a b r s l k i
  | 0, i => by simp [endR, runN, fv]
  | k + 1, i => by
    simp only [endR, runN]
    by_cases hz : seA a b r (stN a b r s l i) (rat l i) = 0
    · have ih := endR_one (a := a) (b := b) (r := r) (s := s) (l := l) (L := L) (M := M) k (i + 1)
      have := (runN_le a b r s l k (i + 1)).1
      simp only [hz, ne_eq, not_true_eq_false, if_false, if_true]
      generalize hn : runN a b r s l k (i + 1) = n at *
      rw [show n - i = (n - (i + 1)) + 1 by omega]
      simp only [fv]
      cases hv : vG a b L M (stN a b r s l) (i + 1) with
      | some q => simp
      | none =>
        simp only
        rw [ih]
    · simp only [hz, ne_eq, not_false_eq_true, if_true, if_false, Nat.sub_self, fv]
def lastF (l : List Rdg) : Rdg := rat l (l.length - 1)
def rep (l : List Rdg) : List Rdg := List.replicate 200 (lastF l)
theorem rep_len (l : List Rdg) : (rep l).length = 200 := List.length_replicate
theorem rep_at (l : List Rdg) {i : Nat} (h : i < 200) : rat (rep l) i = lastF l := by
  unfold rat rep; rw [List.getD_eq_getElem?_getD, List.getElem?_replicate, if_pos h]; rfl
theorem ferr_rep {l : List Rdg} (h : ∀ i, i < l.length → ferr l i = 0) (h0 : 0 < l.length) : ∀ i, i < 200 → ferr (rep l) i = 0 := fun i hi => by
  have := h (l.length - 1) (by omega)
  unfold ferr at this ⊢
  rw [rep_at l hi]; exact this
theorem fstIx_none (f : Nat → Int) : ∀ n i, (∀ j, i ≤ j → j < i + n → f j = 0) → (fstIx f n i).2 = 0
  | 0, i, h => rfl
  | n + 1, i, h => by
    have h0 := h i (by omega) (by omega)
    have ih := fstIx_none f n (i + 1) (fun j h1 h2 => h j (by omega) (by omega))
    simp [fstIx, h0, ih]
theorem listErr_rep {l : List Rdg} (h : ∀ i, i < l.length → ferr l i = 0) (h0 : 0 < l.length) : listErr (rep l) = 0 := by
  unfold listErr
  rw [rep_len, if_neg (by omega)]
  exact fstIx_none _ _ _ (fun j _ h2 => ferr_rep h h0 j (by omega))
theorem rds_last {l : List Rdg} (h0 : 0 < l.length) : (rds l).drop (l.length - 1) = [(lastF l).enc] := by
  have h : l.length - 1 < (rds l).length := by simp; omega
  rw [List.drop_eq_getElem_cons h, rds_get]
  simp [lastF, show l.length - 1 + 1 = l.length by omega]
theorem rds_rep (l : List Rdg) : rds (rep l) = List.replicate 200 (lastF l).enc := by unfold rds rep; rw [List.map_replicate]
theorem pp_list {σ : Store} {e s b j : Nat} {ys cs : List AVal} {tk : Option Nat} (hs0 : 0 < s) (ho : ∀ c, c ∈ cs → c.one = true) (hb : b ≤ 1000) (hl : ys.length ≤ 1000000) (hj : σ.get j = some (.tok e s ys.length)) :
    xappend σ e s b (.list s ys (some j)) (.list s [.agg cs] tk) = some (.list s (ys ++ [.agg cs]) (some j), σ.put j (.tok e s (ys.length + 1))) := by
  have o : ones [.agg cs] = true := by simp [ones, AVal.cells]; exact ho
  have h1 : (ys.length + 1) * b ≤ 1000000000000 := Nat.le_trans (Nat.mul_le_mul (by omega : ys.length + 1 ≤ 1000001) hb) (by decide)
  have h2 : ys.length ≤ 999999999999 := by omega
  simp [xappend, o, hs0, h1, h2, hj]
theorem pp_nils {σ : Store} {e s b : Nat} {cs : List AVal} {tk : Option Nat} (hs0 : 0 < s) (ho : ∀ c, c ∈ cs → c.one = true) (hb : b ≤ 1000) :
    xappend σ e s b .nils (.list s [.agg cs] tk) = some (.list s [.agg cs] (some σ.next), σ.new (.tok e s 1)) := by
  have o : ones [.agg cs] = true := by simp [ones, AVal.cells]; exact ho
  have h1 : b ≤ 1000000000000 := by omega
  simp [xappend, o, hs0, h1]
def permN (a b : List Kn) (r : Int) (s : Kn) (l : List Rdg) (L M : Lim) : Nat := (endR a b r s (rep l) L M 200 0).1
def permE (a b : List Kn) (r : Int) (s : Kn) (l : List Rdg) (L M : Lim) : Int := if wErr a b r s L M l ≠ 0 then wErr a b r s L M l else if l = [] then 10 else 0
section
variable {X : FuncId → Option XFunc} (hP : VPermCode X) (hX : VVioCode X)
include hP hX
set_option maxHeartbeats 1000000 in
theorem z25 (hR : ∀ (x y z : Int) σ, Run X (.call 58) [.list 3 [.agg [.int .i64 x, .int .i64 y, .int .i64 z]] none, .int .i64 200] σ = some (.ret, [.list 3 (List.replicate 200 (.agg [.int .i64 x, .int .i64 y, .int .i64 z])) none], σ))
    {a b : List Kn} {u v : AVal} (p : PV a b u v) (r : Int) (s : Kn) (L M : Lim) {l : List Rdg} {w : AVal} (hw : RL l w) (hl1 : l.length ≤ 1000000) (σ : Store) :
    Run X (.call 25) [.agg [u, v, .int .i64 r], .agg [.int .i64 s.1, .int .i64 s.2], .agg (L.cells ++ M.cells ++ [w])] σ = some (.ret, [.tup [.int .i64 (if permE a b r s l L M = 0 then (permN a b r s l L M : Int) else 0), .int .i64 (permE a b r s l L M)]], σ) := by
  have ha := p.ka; have hb := p.kb
  have z51 := z51 hX p r s L M hw hl1
  have hx := hw.xlen
  refine call3 (v := .tup [.int .i64 (if permE a b r s l L M = 0 then (permN a b r s l L M : Int) else 0), .int .i64 (permE a b r s l L M)]) hP.h25 (by simp [AVal.strip, stripL, AVal.free, freeL, ha.strip, ha.free, hb.strip, hb.free]) rfl (by simp [AVal.strip, stripL, AVal.free, freeL, hw.strip, hw.free, Lim.cells]) (by decide) (fun tm hl a0 a1 a2 => ?_) rfl σ
  simp only [AVal.strip, stripL, ha.strip, hb.strip, hw.strip, Lim.cells, List.cons_append, List.nil_append] at a0 a1 a2
  replace hl : tm.length = 42 := hl
  simp only [Lim.cells, List.cons_append, List.nil_append] at z51
  unfold Gives permE
  by_cases hb0 : bothErr a b r s.1 s.2 = 0
  case neg =>
    have hwE : wErr a b r s L M l = bothErr a b r s.1 s.2 := by unfold wErr; rw [if_pos hb0]
    have hwV : wVal a b u v r s L M = .agg zero15 := by unfold wVal; rw [if_pos hb0]
    rw [hwE, hwV] at z51
    rw [hwE]
    simp only [zero15] at z51
    simp [xf25, hl, a0, a1, a2, z51, hb0, ha.one, ha.strip, ha.free, hb.one, hb.strip, hb.free, hw.one, hw.strip, hw.free, xresult, xrets, Store.empty, Store.new, Store.put, Store.get, look, putL, setR, Store.only, Store.merge, touch, wrote, upTo, isIn, okRec, hits, capsOf, xcaps, stripL, AVal.strip, freeL, AVal.free, fillR, chunks, mkV, List.filter]
    done
  have hwV : wVal a b u v r s L M = .agg ([u, v, .int .i64 r, .int .i64 s.1, .int .i64 s.2] ++ (L.cells ++ M.cells)) := by unfold wVal; rw [if_neg (by simpa using hb0)]
  rw [hwV] at z51
  simp only [Lim.cells, List.cons_append, List.nil_append] at z51
  by_cases hE : wErr a b r s L M l = 0
  case neg =>
    simp [xf25, hl, a0, a1, a2, z51, hE, ha.one, ha.strip, ha.free, hb.one, hb.strip, hb.free, hw.one, hw.strip, hw.free, xresult, xrets, Store.empty, Store.new, Store.put, Store.get, look, putL, setR, Store.only, Store.merge, touch, wrote, upTo, isIn, okRec, hits, capsOf, xcaps, stripL, AVal.strip, freeL, AVal.free, fillR, chunks, mkV, List.filter]
    done
  rw [hE] at z51
  by_cases hnil : l = []
  · subst hnil
    simp at hx
    simp [xf25, hl, a0, a1, a2, z51, hE, hx, ha.one, ha.strip, ha.free, hb.one, hb.strip, hb.free, hw.one, hw.strip, hw.free, xresult, xrets, Store.empty, Store.new, Store.put, Store.get, look, putL, setR, Store.only, Store.merge, touch, wrote, upTo, isIn, okRec, hits, capsOf, xcaps, stripL, AVal.strip, freeL, AVal.free, fillR, chunks, mkV, List.filter]
    done
  have h0 : 0 < l.length := List.length_pos_iff.2 hnil
  obtain ⟨ta, tb, r0, r1, v1, v2⟩ := both_ok hb0
  have ht : tskErr a b L M l = 0 := by unfold wErr at hE; rw [if_neg (by simpa using hb0)] at hE; exact hE
  have hls : limsErr a b L M = 0 := by
    unfold tskErr at ht; split at ht
    · contradiction
    · simp_all
  have hll : listErr l = 0 := by unfold tskErr at ht; rw [if_neg (by simpa using hls)] at ht; exact ht
  obtain ⟨oL, oM⟩ := lims_ok hls
  obtain ⟨_, hf⟩ := list_ok hll
  have z52 := z52 hX p ta tb r0 r1 v1 v2 (l := rep l) (w := .list 3 (rds (rep l)) none) (.inr rfl) (fun i hi => ferr_rep hf h0 i (by rw [rep_len] at hi; exact hi)) (by rw [rep_len]; omega) oL oM
  rw [rep_len, rds_rep] at z52
  have hlast := rds_last h0
  have hw' := hw.list h0
  obtain ⟨n1, n2⟩ : IntKind.i64.wrap ((l.length : Int) - 1) = ((l.length - 1 : Nat) : Int) ∧ ¬ (l.length : Int) = 0 := ⟨by rw [wrap_i64] <;> omega, by omega⟩
  have eN : permN a b r s l L M = (endR a b r s (rep l) L M 200 0).1 := rfl
  rw [eN]
  obtain ⟨x, y, z, hc⟩ := endR_cells (a := a) (b := b) (r := r) (s := s) (l := rep l) (L := L) (M := M) 200 0
  simp only [endV, hc, Lim.cells, List.cons_append, List.nil_append, Rdg.enc] at z52 hlast
  have rf := rds_free (rep l)
  rw [rds_rep] at rf
  simp only [Rdg.enc] at rf
  have rst := freeL_strip rf
  have hR := hR (lastF l).1 (lastF l).2.1 (lastF l).2.2
  generalize (endR a b r s (rep l) L M 200 0).1 = n at *
  generalize (endR a b r s (rep l) L M 200 0).2.2 = e at *
  generalize List.replicate 200 (AVal.agg [.int .i64 (lastF l).1, .int .i64 (lastF l).2.1, .int .i64 (lastF l).2.2]) = rs at *
  have hle : l.length - 1 ≤ l.length := by omega
  have htk : (rds l).take l.length = rds l := List.take_of_length_le (by simp)
  subst hw'
  simp [xf25, hl, a0, a1, a2, z51, z52, hE, hx, hnil, n1, n2, hR, hlast, htk, rf, rst, hle, rds_len, rds_strip, rds_free, ha.one, ha.strip, ha.free, hb.one, hb.strip, hb.free, xresult, xrets, Store.empty, Store.new, Store.put, Store.get, look, putL, setR, Store.only, Store.merge, touch, wrote, upTo, isIn, okRec, hits, capsOf, xcaps, stripL, AVal.strip, freeL, AVal.free, fillR, chunks, mkV, List.filter]
omit hP hX in
/-- A list that grows. -/
def Grow (e s : Nat) (σ : Store) (m0 : Nat) (ys : List AVal) (v : AVal) : Prop := (v = .nils ∧ ys = []) ∨ ∃ j, m0 ≤ j ∧ j < σ.next ∧ v = .list s ys (some j) ∧ σ.get j = some (.tok e s ys.length) ∧ ys ≠ []
omit hP hX in
def I26 (u v : AVal) (r : Int) (s : Kn) (L M : Lim) (w : AVal) (x : Rdg) (i : Nat) (tm : List AVal) (σ : Store) : Prop :=
  tm.length = 63 ∧ XOpd.eval tm (.t 3) = .ptr 0 0 ∧ XOpd.eval tm (.t 4) = .ptr 1 0 ∧ XOpd.eval tm (.t 5) = .ptr 2 0 ∧ XOpd.eval tm (.t 8) = .int .i64 i ∧
  σ.get 0 = some (.cells [u, v, .int .i64 r]) ∧ σ.get 1 = some (.cells [.int .i64 s.1, .int .i64 s.2]) ∧ σ.get 2 = some (.cells (L.cells ++ M.cells ++ [w])) ∧ 3 ≤ σ.next ∧ Grow 73 3 σ 3 (List.replicate i x.enc) (XOpd.eval tm (.t 7))
omit hP hX in
set_option maxHeartbeats 1000000 in
theorem loop26a {u v : AVal} {r : Int} {s : Kn} {L M : Lim} {l : List Rdg} {w : AVal} (hw : RL l w) (h0 : 0 < l.length) (hl1 : l.length ≤ 1000000) (ou : u.one = true) (ov : v.one = true) :
    ∀ (k i : Nat), i + k = 200 → ∀ (tm : List AVal) (σ : Store), I26 u v r s L M w (lastF l) i tm σ → Ends (Run X (.code (.loop xf26l0)) tm σ) (.exit 0) fun tm σ => I26 u v r s L M w (lastF l) 200 tm σ
  | 0, i, hk, tm, σ, h => by
    have : i = 200 := by omega
    subst this
    obtain ⟨hl, h3, h4, h5, h8, g0, g1, g2, nx, hG⟩ := h
    have key : Ends (Run X (.code (.loop xf26l0)) tm σ) (.exit 0) fun tm' σ' => tm'.length = 63 ∧ XOpd.eval tm' (.t 3) = .ptr 0 0 ∧ XOpd.eval tm' (.t 4) = .ptr 1 0 ∧ XOpd.eval tm' (.t 5) = .ptr 2 0 ∧ XOpd.eval tm' (.t 8) = .int .i64 ((200 : Nat) : Int) ∧ XOpd.eval tm' (.t 7) = XOpd.eval tm (.t 7) ∧ σ' = σ := by
      rw [Run_loop]
      simp [xf26l0, hl, h3, h4, h5, h8]
    obtain ⟨tm', σ', e, c1, c2, c3, c4, c5, c6, c7⟩ := key
    subst c7
    exact ⟨tm', σ', e, c1, c2, c3, c4, c5, g0, g1, g2, nx, by rw [c6]; exact hG⟩
  | k + 1, i, hk, tm, σ, h => by
    have ih := loop26a (r := r) (s := s) (L := L) (M := M) hw h0 hl1 ou ov k (i + 1) (by omega)
    obtain ⟨hl, h3, h4, h5, h8, g0, g1, g2, nx, hG⟩ := h
    obtain ⟨N, hN⟩ : ∃ N, σ.next = N + 3 := ⟨σ.next - 3, by omega⟩
    have hi : (i : Int) < 200 := by omega
    have hw1 : IntKind.i64.wrap ((i : Int) + 1) = ((i + 1 : Nat) : Int) := by rw [wrap_i64] <;> omega
    have n1 : IntKind.i64.wrap ((l.length : Int) - 1) = ((l.length - 1 : Nat) : Int) := by rw [wrap_i64] <;> omega
    have q : (rds l)[l.length - 1]? = some (lastF l).enc := rds_getElem? (by omega)
    have wl := hw.list h0
    have hrep : List.replicate (i + 1) (lastF l).enc = List.replicate i (lastF l).enc ++ [(lastF l).enc] := List.replicate_succ'
    have hlen : (List.replicate i (lastF l).enc).length = i := List.length_replicate
    have hfin : ∀ tm' σ' j, tm'.length = 63 → XOpd.eval tm' (.t 3) = .ptr 0 0 → XOpd.eval tm' (.t 4) = .ptr 1 0 → XOpd.eval tm' (.t 5) = .ptr 2 0 → XOpd.eval tm' (.t 8) = .int .i64 ((i + 1 : Nat) : Int) → σ'.get 0 = some (.cells [u, v, .int .i64 r]) → σ'.get 1 = some (.cells [.int .i64 s.1, .int .i64 s.2]) → σ'.get 2 = some (.cells (L.cells ++ M.cells ++ [w])) → 3 ≤ j → j < σ'.next →
        XOpd.eval tm' (.t 7) = .list 3 (List.replicate i (lastF l).enc ++ [(lastF l).enc]) (some j) → σ'.get j = some (.tok 73 3 (i + 1)) → I26 u v r s L M w (lastF l) (i + 1) tm' σ' :=
      fun tm' σ' j a1 a2 a3 a4 a5 a6 a7 a8 a9 a10 a11 a12 => ⟨a1, a2, a3, a4, a5, a6, a7, a8, by omega, .inr ⟨j, a9, a10, by rw [hrep]; exact a11, by rw [a12]; simp, by rw [hrep]; simp⟩⟩
    subst wl
    simp only [Lim.cells, Rdg.enc, List.cons_append, List.nil_append] at g2 q hfin hG
    generalize hys : List.replicate i (AVal.agg [.int .i64 (lastF l).1, .int .i64 (lastF l).2.1, .int .i64 (lastF l).2.2]) = ys at *
    have hlen' : ys.length = i := by rw [← hys]; exact List.length_replicate
    obtain ⟨_, q2⟩ := List.getElem?_eq_some_iff.1 q
    generalize lastF l = x at *
    have key : Ends (Run X (.code xf26l0) tm σ) .normal fun tm' σ' => I26 u v r s L M (.list 3 (rds l) none) x (i + 1) tm' σ' := by
      rcases hG with ⟨h7, hy⟩ | ⟨j, j1, j2, h7, j3, j4⟩
      · subst hy
        have key : Ends (Run X (.code xf26l0) tm σ) .normal fun tm' σ' => tm'.length = 63 ∧ XOpd.eval tm' (.t 3) = .ptr 0 0 ∧ XOpd.eval tm' (.t 4) = .ptr 1 0 ∧ XOpd.eval tm' (.t 5) = .ptr 2 0 ∧ XOpd.eval tm' (.t 8) = .int .i64 ((i + 1 : Nat) : Int) ∧ σ'.get 0 = σ.get 0 ∧ σ'.get 1 = σ.get 1 ∧ σ'.get 2 = σ.get 2 ∧ σ'.next = N + 5 ∧ XOpd.eval tm' (.t 7) = .list 3 [.agg [.int .i64 x.1, .int .i64 x.2.1, .int .i64 x.2.2]] (some (N + 4)) ∧ σ'.get (N + 4) = some (.tok 73 3 1) := by
          simp [xf26l0, hl, h3, h4, h5, h7, h8, g2, hN, hi, hw1, n1, q, q2, pp_nils, AVal.cells, put_next, new_next, Store.get_new, Store.get_put, put_get, setR, only_get, merge_get', only_next, merge_next, upTo_self, upTo_one, merge_only, touch, wrote, isIn, okRec, hits, capsOf, xcaps, stripL, AVal.strip, freeL, AVal.free, fillR, chunks, mkV]
        obtain ⟨tm', σ', e, c1, c2, c3, c4, c5, c6, c7, c8, c9, c10, c11⟩ := key
        simp at hlen'
        subst hlen'
        exact ⟨tm', σ', e, hfin tm' σ' (N + 4) c1 c2 c3 c4 c5 (c6.trans g0) (c7.trans g1) (c8.trans g2) (by omega) (by omega) c10 c11⟩
      · have key : Ends (Run X (.code xf26l0) tm σ) .normal fun tm' σ' => tm'.length = 63 ∧ XOpd.eval tm' (.t 3) = .ptr 0 0 ∧ XOpd.eval tm' (.t 4) = .ptr 1 0 ∧ XOpd.eval tm' (.t 5) = .ptr 2 0 ∧ XOpd.eval tm' (.t 8) = .int .i64 ((i + 1 : Nat) : Int) ∧ σ'.get 0 = σ.get 0 ∧ σ'.get 1 = σ.get 1 ∧ σ'.get 2 = σ.get 2 ∧ σ'.next = N + 4 ∧ XOpd.eval tm' (.t 7) = .list 3 (ys ++ [.agg [.int .i64 x.1, .int .i64 x.2.1, .int .i64 x.2.2]]) (some j) ∧ σ'.get j = some (.tok 73 3 (ys.length + 1)) := by
          have k1 : ¬ j = N + 3 := by omega
          have k2 : ¬ N + 3 = j := by omega
          have k3 : ¬ j = 0 := by omega
          have k4 : ¬ 0 = j := by omega
          have k5 : ¬ j = 1 := by omega
          have k6 : ¬ 1 = j := by omega
          have k7 : ¬ j = 2 := by omega
          have k8 : ¬ 2 = j := by omega
          have k9 : ys.length ≤ 1000000 := by omega
          simp [xf26l0, hl, h3, h4, h5, h7, h8, g2, hN, hi, hw1, n1, q, q2, pp_list, j3, k1, k2, k3, k4, k5, k6, k7, k8, k9, AVal.cells, put_next, new_next, Store.get_new, Store.get_put, put_get, setR, only_get, merge_get', only_next, merge_next, upTo_self, upTo_one, merge_only, touch, wrote, isIn, okRec, hits, capsOf, xcaps, stripL, AVal.strip, freeL, AVal.free, fillR, chunks, mkV]
        obtain ⟨tm', σ', e, c1, c2, c3, c4, c5, c6, c7, c8, c9, c10, c11⟩ := key
        exact ⟨tm', σ', e, hfin tm' σ' j c1 c2 c3 c4 c5 (c6.trans g0) (c7.trans g1) (c8.trans g2) j1 (by omega) c10 (by rw [c11, hlen'])⟩
    obtain ⟨o1, o2⟩ := out_of key
    rw [Run_loop, o1, thenC_normal]
    exact ih _ _ o2
omit hP hX in
def J26 (u v : AVal) (r : Int) (L M : Lim) (w vs : AVal) (xs : List Kn) (t : Nat) (tm : List AVal) (σ : Store) : Prop :=
  tm.length = 63 ∧ XOpd.eval tm (.t 3) = .ptr 0 0 ∧ XOpd.eval tm (.t 5) = .ptr 2 0 ∧ XOpd.eval tm (.t 9) = vs ∧ (XOpd.eval tm (.t 12)).strip = .list 2 (kns xs) none ∧ xlen (XOpd.eval tm (.t 12)) = some (.int .i64 xs.length) ∧ XOpd.eval tm (.t 13) = .int .i64 t ∧
  σ.get 0 = some (.cells [u, v, .int .i64 r]) ∧ σ.get 2 = some (.cells (L.cells ++ M.cells ++ [w])) ∧ 3 ≤ σ.next
omit hP in
set_option maxHeartbeats 1000000 in
theorem loop26b {a b : List Kn} {u v : AVal} (p : PV a b u v) (ta : Tab a) (tb : Tab b) {r : Int} {s : Kn} {l : List Rdg} {L M : Lim} (oL : LimOk a L) (oM : LimOk b M) {w vs : AVal} {n : Nat} (hv : ∀ i, i ≤ n → isVol a (stN a b r s l i).1 = true ∧ isVol b (stN a b r s l i).2 = true) (hn : n ≤ 100000) : ∀ (k t : Nat), 1 ≤ t → t + k = n + 1 → ∀ (tm : List AVal) (σ : Store), J26 u v r L M w vs (pst (stN a b r s l) n) t tm σ →
    Ends (Run X (.code (.loop xf26l1)) tm σ) (match fv a b L M (stN a b r s l) k t with | none => .exit 2 | some _ => .ret) fun tm' σ' => tm'.length = 63 ∧ (fv a b L M (stN a b r s l) k t = none → XOpd.eval tm' (.t 9) = vs) ∧
      ∀ t' la kd, fv a b L M (stN a b r s l) k t = some (t', la, kd) → XOpd.eval tm' (.t 6) = .int .i64 ((t' - 1 : Nat) : Int)
  | 0, t, h1, hk, tm, σ, ⟨hl, h3, h5, h9, h12, x12, h13, g0, g2, nx⟩ => by
    have e : t = n + 1 := by omega
    subst e
    rw [Run_loop]
    simp at x12
    simp [xf26l1, fv, hl, h3, h5, h9, x12, h13]
  | k + 1, t, h1, hk, tm, σ, ⟨hl, h3, h5, h9, h12, x12, h13, g0, g2, nx⟩ => by
    have ht : t ≤ n := by omega
    have hti : (t : Int) < (n : Int) + 1 := by omega
    obtain ⟨N, hN⟩ : ∃ N, σ.next = N + 3 := ⟨σ.next - 3, by omega⟩
    have hw : IntKind.i64.wrap ((t : Int) + 1) = ((t + 1 : Nat) : Int) := by rw [wrap_i64] <;> omega
    have hw1 : IntKind.i64.wrap ((t : Int) - 1) = ((t - 1 : Nat) : Int) := by rw [wrap_i64] <;> omega
    have ha := p.ka; have hb := p.kb
    have z57 := z57 hX p ta tb (r := r) oL oM (xs := pst (stN a b r s l) n) (fun i hi => by
      simp at hi
      rw [pst_kat (by omega)]; exact hv i (by omega)) (t := t) (by simp; omega) (by simp; omega) h12
    rw [vF_pst ht] at z57
    have ih := loop26b p ta tb oL oM hv hn (w := w) (vs := vs) k (t + 1) (by omega) (by omega)
    simp at x12
    generalize hsl : XOpd.eval tm (.t 12) = sl at *
    simp only [Lim.cells, List.cons_append, List.nil_append] at g2 z57
    cases hq : vG a b L M (stN a b r s l) t with
    | none =>
      have hf : fv a b L M (stN a b r s l) (k + 1) t = fv a b L M (stN a b r s l) k (t + 1) := by simp only [fv, hq]
      rw [hf]
      rw [hq] at z57
      simp only [vR, vV, Option.isSome] at z57
      have key : Ends (Run X (.code xf26l1) tm σ) .normal fun tm' σ' => J26 u v r L M w vs (pst (stN a b r s l) n) (t + 1) tm' σ' := by
        simp [xf26l1, J26, hl, h3, h5, h9, hsl, h12, x12, h13, g0, g2, hN, hti, z57, hw, Lim.cells, ha.one, ha.strip, ha.free, hb.one, hb.strip, hb.free, put_next, new_next, Store.get_new, Store.get_put, put_get, setR, only_get, merge_get', only_next, merge_next, upTo_self, upTo_one, merge_only, touch, wrote, isIn, okRec, hits, capsOf, xcaps, stripL, AVal.strip, freeL, AVal.free, fillR, chunks, mkV]
      obtain ⟨o1, o2⟩ := out_of key
      rw [Run_loop, o1, thenC_normal]
      exact ih _ _ o2
    | some q =>
      obtain ⟨la, kd⟩ := q
      have hf : fv a b L M (stN a b r s l) (k + 1) t = some (t, la, kd) := by simp only [fv, hq]
      rw [hf, Run_loop]
      rw [hq] at z57
      simp only [vR, vV, Option.isSome] at z57
      simp [xf26l1, hl, h3, h5, h9, hsl, h12, x12, h13, g0, g2, hN, hti, z57, hw, hw1, Lim.cells, ha.one, ha.strip, ha.free, hb.one, hb.strip, hb.free, put_next, new_next, Store.get_new, Store.get_put, put_get, setR, only_get, merge_get', only_next, merge_next, upTo_self, upTo_one, merge_only, touch, wrote, isIn, okRec, hits, capsOf, xcaps, stripL, AVal.strip, freeL, AVal.free, fillR, chunks, mkV]
set_option maxHeartbeats 2000000 in
theorem z26 {a b : List Kn} {u v : AVal} (p : PV a b u v) {r : Int} {s : Kn} (h0 : bothErr a b r s.1 s.2 = 0) {L M : Lim} (oL : LimOk a L) (oM : LimOk b M) {l : List Rdg} {w : AVal} (hw : RL l w) (hLi : listErr l = 0) (hne : 0 < l.length) (σ : Store) :
    Run X (.call 26) [.agg [u, v, .int .i64 r], .agg [.int .i64 s.1, .int .i64 s.2], .agg (L.cells ++ M.cells ++ [w])] σ = some (.ret, [.int .i64 (permN a b r s l L M)], σ) := by
  have ha := p.ka; have hb := p.kb
  obtain ⟨ta, tb, r0, r1, v1, v2⟩ := both_ok h0
  obtain ⟨hl1, hf⟩ := list_ok hLi
  have hLr := listErr_rep hf hne
  obtain ⟨z, ⟨vs, kvs, rfl⟩, z16⟩ := z16 hX.runs p (r := r) (s := s) h0 (l := rep l) (w := .list 3 (rds (rep l)) none) (.inr rfl) hLr
  have he : permN a b r s l L M = match fv a b L M (stN a b r s (rep l)) (runN a b r s (rep l) 200 0) 1 with
      | some (t, q) => t - 1
      | none => runN a b r s (rep l) 200 0 := by
    have := endR_one (a := a) (b := b) (r := r) (s := s) (l := rep l) (L := L) (M := M) 200 0
    rw [Nat.sub_zero, Nat.zero_add] at this
    exact this
  rw [rep_len] at kvs z16
  have hcons := pst_cons a b r s (rep l) (runN a b r s (rep l) 200 0)
  obtain ⟨n1, n2⟩ := runN_le a b r s (rep l) 200 0
  obtain ⟨n3, n4⟩ := runN_ok a b r s (rep l) 200 0
  have hvol : ∀ i, i ≤ runN a b r s (rep l) 200 0 → isVol a (stN a b r s (rep l) i).1 = true ∧ isVol b (stN a b r s (rep l) i).2 = true := fun i hi => stN_vol ta tb v1 v2 (i := i) (l := rep l) (r := r) (fun j hj => n3 j (by omega) (by omega))
  have rf := rds_free (rep l)
  have rst := rds_strip (rep l)
  have hrs : rds (rep l) = List.replicate 200 (lastF l).enc := rds_rep l
  have slen := sts_len a b r s (rep l) (runN a b r s (rep l) 200 0)
  generalize hn : runN a b r s (rep l) 200 0 = n at *
  refine call3 (v := .int .i64 (permN a b r s l L M)) hP.h26 (by simp [AVal.strip, stripL, AVal.free, freeL, ha.strip, ha.free, hb.strip, hb.free]) rfl (by simp [AVal.strip, stripL, AVal.free, freeL, hw.strip, hw.free, Lim.cells]) (by decide) (fun tm hl a0 a1 a2 => ?_) rfl σ
  simp only [AVal.strip, stripL, ha.strip, hb.strip, hw.strip, Lim.cells, List.cons_append, List.nil_append] at a0 a1 a2
  replace hl : tm.length = 63 := hl
  rw [he]
  unfold Gives
  rw [Run_cut 2]
  have e1 : XCode.cutB 2 xf26.body = .block 0 (.loop xf26l0) := rfl
  rw [e1]
  have kA : Ends (Run X (.code (XCode.cutP 2 xf26.body)) tm Store.empty) .normal fun tm σ => I26 u v r s L M w (lastF l) 0 tm σ := by
    have hG : ∀ (σ : Store), Grow 73 3 σ 3 (List.replicate 0 (lastF l).enc) .nils := fun σ => .inl ⟨rfl, rfl⟩
    simp [xf26, XCode.cutP, I26, hl, a0, a1, a2, Lim.cells, ha.one, ha.strip, ha.free, hb.one, hb.strip, hb.free, hw.one, hw.strip, hw.free, Store.empty, Store.new, Store.put, Store.get, look, putL, setR, Store.only, Store.merge, touch, wrote, upTo, isIn, okRec, hits, capsOf, xcaps, stripL, AVal.strip, freeL, AVal.free, fillR, chunks, mkV, List.filter]
    exact hG _
  obtain ⟨o1, o2⟩ := out_of kA
  rw [o1, thenC_normal, Run_block]
  generalize outT X _ tm Store.empty = tm1 at *
  generalize outS X _ tm Store.empty = σ1 at *
  obtain ⟨q1, q2⟩ := out_of (loop26a (X := X) (r := r) (s := s) (L := L) (M := M) hw hne (by omega) ha.one hb.one 200 0 (by omega) tm1 σ1 o2)
  rw [q1]
  generalize outT X (.loop xf26l0) tm1 σ1 = tm2 at *
  generalize outS X (.loop xf26l0) tm1 σ1 = σ2 at *
  obtain ⟨hl2, h3, h4, h5, _, g0, g1, g2, nx, hG⟩ := q2
  rw [← hrs] at hG
  obtain ⟨j, j1, j2, h7, j3, j4⟩ : ∃ j, 3 ≤ j ∧ j < σ2.next ∧ XOpd.eval tm2 (.t 7) = .list 3 (rds (rep l)) (some j) ∧ σ2.get j = some (.tok 73 3 (rds (rep l)).length) ∧ rds (rep l) ≠ [] := by
    rcases hG with ⟨_, e⟩ | ⟨j, h⟩
    · have := congrArg List.length e; simp [rep_len] at this
    · exact ⟨j, h⟩
  have e16 : stripL [.agg [u, v, .int .i64 r], .agg [.int .i64 s.1, .int .i64 s.2], .list 3 (rds (rep l)) (some j)] = [.agg [u, v, .int .i64 r], .agg [.int .i64 s.1, .int .i64 s.2], .list 3 (rds (rep l)) none] := by simp [stripL, AVal.strip, ha.strip, hb.strip, rst]
  have z16' := fun (σ : Store) => (call_stripped (X := X) (f := 16) (args := [.agg [u, v, .int .i64 r], .agg [.int .i64 s.1, .int .i64 s.2], .list 3 (rds (rep l)) (some j)]) (by simp [stripL, AVal.strip, freeL, AVal.free, ha.strip, ha.free, hb.strip, hb.free, rst, rf]) σ).trans ((congrArg (fun q => Run X (.call 16) q σ) e16).trans (z16 σ))
  simp only [blockC_exit]
  rw [thenC_normal, Run_cut 2 (XCode.cutR 2 xf26.body)]
  have e2 : XCode.cutB 2 (XCode.cutR 2 xf26.body) = .block 2 (.loop xf26l1) := rfl
  rw [e2]
  obtain ⟨N, hN⟩ : ∃ N, σ2.next = N + 3 := ⟨σ2.next - 3, by omega⟩
  have b1 : (1 + n) * 16 ≤ 1000000000000 := by omega
  have b2 : 1 + n ≤ 1000000000000 := by omega
  simp only [Lim.cells, List.cons_append, List.nil_append] at g2
  generalize rds (rep l) = R at *
  have kB : Ends (Run X (.code (XCode.cutP 2 (XCode.cutR 2 xf26.body))) tm2 σ2) .normal fun tm σ => J26 u v r L M w vs (pst (stN a b r s (rep l)) n) 1 tm σ := by
    rw [hcons]
    rcases kvs with ⟨rfl, hs0⟩ | rfl
    · rw [hs0]
      have hn0 : n = 0 := by rw [hs0] at slen; simpa using slen.symm
      simp [J26, xf26, XCode.cutP, XCode.cutR, hl2, h3, h4, h5, h7, g0, g1, g2, hN, z16', Lim.cells, xappend, AVal.isSlice, kns, Kn.enc, ha.one, ha.strip, ha.free, hb.one, hb.strip, hb.free, hw.one, hw.strip, hw.free, put_next, new_next, Store.get_new, Store.get_put, put_get, setR, only_get, merge_get', only_next, merge_next, upTo_self, upTo_one, merge_only, touch, wrote, isIn, okRec, hits, capsOf, xcaps, stripL, AVal.strip, freeL, AVal.free, fillR, chunks, mkV]
    · by_cases hn0 : n = 0
      · subst hn0
        simp [J26, xf26, XCode.cutP, XCode.cutR, hl2, h3, h4, h5, h7, g0, g1, g2, hN, z16', Lim.cells, xappend, AVal.isSlice, sts, ones, kns, Kn.enc, ha.one, ha.strip, ha.free, hb.one, hb.strip, hb.free, hw.one, hw.strip, hw.free, put_next, new_next, Store.get_new, Store.get_put, put_get, setR, only_get, merge_get', only_next, merge_next, upTo_self, upTo_one, merge_only, touch, wrote, isIn, okRec, hits, capsOf, xcaps, stripL, AVal.strip, freeL, AVal.free, fillR, chunks, mkV]
      · obtain ⟨c0, cs, hcs⟩ : ∃ c0 cs, sts a b r s (rep l) n = c0 :: cs := by
          cases h : sts a b r s (rep l) n with
          | nil => rw [h] at slen; simp at slen; omega
          | cons c0 cs => exact ⟨c0, cs, rfl⟩
        have hcl : cs.length + 1 = n := by rw [hcs] at slen; simpa using slen
        have b6 : (1 + (cs.length + 1)) * 16 ≤ 1000000000000 := by omega
        have b7 : 1 + (cs.length + 1) ≤ 1000000000000 := by omega
        have b8 : cs.length + 1 ≤ 999999999999 := by omega
        have ho : ones (kns (c0 :: cs)) = true := kns_ones _
        have hst : stripL (kns cs) = kns cs := kns_strip cs
        rw [hcs] at z16' ⊢
        simp only [kns, List.map_cons, Kn.enc] at z16' ho hst ⊢
        simp [J26, xf26, XCode.cutP, XCode.cutR, hl2, h3, h4, h5, h7, g0, g1, g2, hN, z16', Lim.cells, xappend, AVal.isSlice, ho, hst, b6, b7, b8, kns, Kn.enc, ha.one, ha.strip, ha.free, hb.one, hb.strip, hb.free, hw.one, hw.strip, hw.free, put_next, new_next, Store.get_new, Store.get_put, put_get, setR, only_get, merge_get', only_next, merge_next, upTo_self, upTo_one, merge_only, touch, wrote, isIn, okRec, hits, capsOf, xcaps, stripL, AVal.strip, freeL, AVal.free, fillR, chunks, mkV]
        done
  obtain ⟨p1, p2⟩ := out_of kB
  rw [p1, thenC_normal, Run_block]
  generalize outT X _ tm2 σ2 = tm3 at *
  generalize outS X _ tm2 σ2 = σ3 at *
  obtain ⟨s1, s2, s3, s4⟩ := out_of (loop26b hX p ta tb oL oM (w := w) (vs := vs) (n := n) hvol (by omega) n 1 (by omega) (by omega) tm3 σ3 p2)
  rw [s1]
  generalize outT X _ tm3 σ3 = tm4 at *
  generalize outS X _ tm3 σ3 = σ4 at *
  have hvl : xlen vs = some (.int .i64 n) := by
    rcases kvs with ⟨rfl, hs0⟩ | rfl
    · have hn0 : n = 0 := by rw [hs0] at slen; simpa using slen.symm
      rw [hn0]; rfl
    · simp [slen]
  cases hF : fv a b L M (stN a b r s (rep l)) n 1 with
  | some x =>
    obtain ⟨t, la, kd⟩ := x
    have x1 := s4 t la kd hF
    simp [xf26, XCode.cutR, s2, x1]
  | none =>
    have x1 := s3 hF
    simp [xf26, XCode.cutR, s2, x1, hvl]
end
end Go.Proofs.YtbgjmclpahganaaGreat.Eng

/-
  PERMITTED: the law.
-/
namespace Go.Proofs.YtbgjmclpahganaaGreat.Eng
set_option linter.unusedSimpArgs false
set_option linter.unusedVariables false
section
variable {X : FuncId → Option XFunc} (hP : VPermCode X) (hX : VVioCode X)
include hP hX
set_option maxHeartbeats 4000000 in
theorem z5 (hA : ∀ σ, Run X (.call 8) [] σ = some (.ret, [.bool true], σ)) (hR : ∀ (x y z : Int) σ, Run X (.call 58) [.list 3 [.agg [.int .i64 x, .int .i64 y, .int .i64 z]] none, .int .i64 200] σ = some (.ret, [.list 3 (List.replicate 200 (.agg [.int .i64 x, .int .i64 y, .int .i64 z])) none], σ))
    {a b : List Kn} {u v : AVal} (ha : KL a u) (hb : KL b v) (r : Int) (s : Kn) (L M : Lim) {l : List Rdg} {w : AVal} (hw : RL l w) (σ : Store) :
    Run X (.call 5) [.agg [u, v, .int .i64 r], .agg [.int .i64 s.1, .int .i64 s.2], .agg (L.cells ++ M.cells ++ [w])] σ = some (.ret, [.bool true], σ) := by
  have hRn := hX.runs.run
  refine call3 (v := .bool true) hP.h5 (by simp [AVal.strip, stripL, AVal.free, freeL, ha.strip, ha.free, hb.strip, hb.free]) rfl (by simp [AVal.strip, stripL, AVal.free, freeL, hw.strip, hw.free, Lim.cells]) (by decide) (fun tm hl a0 a1 a2 => ?_) rfl σ
  simp only [AVal.strip, stripL, ha.strip, hb.strip, hw.strip, Lim.cells, List.cons_append, List.nil_append] at a0 a1 a2
  replace hl : tm.length = 66 := hl
  have t29 := t29 hRn.pair ha hb r
  have z10 := z10 hX.runs l.length
  unfold Gives
  by_cases few : a.length ≤ 12 ∧ b.length ≤ 12
  case neg =>
    have : (decide (a.length ≤ 12) && decide (b.length ≤ 12)) = false := by simpa using few
    rw [this] at t29
    simp [xf5, hl, a0, a1, a2, hA, t29, ha.one, ha.strip, ha.free, hb.one, hb.strip, hb.free, hw.one, hw.strip, hw.free, Store.empty, Store.new, Store.put, Store.get, look, putL, setR, Store.only, Store.merge, touch, wrote, upTo, isIn, okRec, hits, capsOf, xcaps, stripL, AVal.strip, freeL, AVal.free, fillR, chunks, mkV, List.filter]
    done
  obtain ⟨f1, f2⟩ := few
  have p : PV a b u v := ⟨ha, hb, by omega, by omega⟩
  have t33 := t33 hRn.pair p r s.1 s.2
  by_cases sh : (l.length : Int) ≤ 24 ∨ (200 < (l.length : Int) ∧ (l.length : Int) ≤ 202)
  case neg =>
    have : (decide ((l.length : Int) ≤ 24) || (decide (200 < (l.length : Int)) && decide ((l.length : Int) ≤ 202))) = false := by
      simp only [Bool.or_eq_false_iff, Bool.and_eq_false_iff, decide_eq_false_iff_not]; omega
    rw [this] at z10
    simp [xf5, hl, a0, a1, a2, hA, t29, f1, f2, z10, hw.xlen, ha.one, ha.strip, ha.free, hb.one, hb.strip, hb.free, hw.one, hw.strip, hw.free, Store.empty, Store.new, Store.put, Store.get, look, putL, setR, Store.only, Store.merge, touch, wrote, upTo, isIn, okRec, hits, capsOf, xcaps, stripL, AVal.strip, freeL, AVal.free, fillR, chunks, mkV, List.filter]
    done
  have shT : (decide ((l.length : Int) ≤ 24) || (decide (200 < (l.length : Int)) && decide ((l.length : Int) ≤ 202))) = true := by
    simp only [Bool.or_eq_true, Bool.and_eq_true, decide_eq_true_eq]; exact sh
  rw [shT] at z10
  obtain ⟨u', v', p', t31⟩ := t31 hRn.pair p r
  have ha' := p'.ka; have hb' := p'.kb
  have z19 := z19 hX L M hw (by omega)
  have z25 := z25 hP hX hR p' r s L M (l := l) (w := .list 3 (rds l) none) (.inr rfl) (by omega)
  simp only [Lim.cells, List.cons_append, List.nil_append] at z19 z25
  by_cases hb0 : bothErr a b r s.1 s.2 = 0
  case neg =>
    have hwE : wErr a b r s L M l = bothErr a b r s.1 s.2 := by unfold wErr; rw [if_pos hb0]
    have hE : permE a b r s l L M = bothErr a b r s.1 s.2 := by unfold permE; rw [if_pos (by rw [hwE]; exact hb0), hwE]
    rw [hE, if_neg hb0] at z25
    simp [xf5, hl, a0, a1, a2, hA, t29, f1, f2, z10, t33, hb0, t31, z19, z25, hw.xlen, ha.one, ha.strip, ha.free, hb.one, hb.strip, hb.free, hw.one, hw.strip, hw.free, ha'.one, ha'.strip, ha'.free, hb'.one, hb'.strip, hb'.free, rds_strip, rds_free, Store.empty, Store.new, Store.put, Store.get, look, putL, setR, Store.only, Store.merge, touch, wrote, upTo, isIn, okRec, hits, capsOf, xcaps, stripL, AVal.strip, freeL, AVal.free, fillR, chunks, mkV, List.filter]
    done
  obtain ⟨ta, tb, r0, r1, v1, v2⟩ := both_ok hb0
  have a2' := ta.two; have b2' := tb.two
  have z23 := z23 hX p (by omega) (by omega) r L M hw (by omega)
  simp only [Lim.cells, List.cons_append, List.nil_append] at z23
  by_cases ht : tskErr a b L M l = 0
  case neg =>
    have hwE : wErr a b r s L M l = tskErr a b L M l := by unfold wErr; rw [if_neg (by simpa using hb0)]
    have hE : permE a b r s l L M = tskErr a b L M l := by unfold permE; rw [if_pos (by rw [hwE]; exact ht), hwE]
    rw [hE, if_neg ht] at z25
    simp [xf5, hl, a0, a1, a2, hA, t29, f1, f2, z10, t33, hb0, ht, t31, z19, z25, z23, hw.xlen, ha.one, ha.strip, ha.free, hb.one, hb.strip, hb.free, hw.one, hw.strip, hw.free, ha'.one, ha'.strip, ha'.free, hb'.one, hb'.strip, hb'.free, rds_strip, rds_free, Store.empty, Store.new, Store.put, Store.get, look, putL, setR, Store.only, Store.merge, touch, wrote, upTo, isIn, okRec, hits, capsOf, xcaps, stripL, AVal.strip, freeL, AVal.free, fillR, chunks, mkV, List.filter]
    done
  have hwE : wErr a b r s L M l = 0 := by unfold wErr; rw [if_neg (by simpa using hb0)]; exact ht
  by_cases hnil : l = []
  · subst hnil
    have hE : permE a b r s [] L M = 10 := by unfold permE; rw [if_neg (by simp [hwE]), if_pos rfl]
    rw [hE] at z25
    have zz : (([] : List Rdg).length : Int) = 0 := rfl
    rw [zz] at z10
    simp [xf5, hl, a0, a1, a2, hA, t29, f1, f2, z10, t33, hb0, ht, t31, z19, z25, z23, hw.xlen, ha.one, ha.strip, ha.free, hb.one, hb.strip, hb.free, hw.one, hw.strip, hw.free, ha'.one, ha'.strip, ha'.free, hb'.one, hb'.strip, hb'.free, rds_strip, rds_free, Store.empty, Store.new, Store.put, Store.get, look, putL, setR, Store.only, Store.merge, touch, wrote, upTo, isIn, okRec, hits, capsOf, xcaps, stripL, AVal.strip, freeL, AVal.free, fillR, chunks, mkV, List.filter]
    done
  have hE : permE a b r s l L M = 0 := by unfold permE; rw [if_neg (by simp [hwE]), if_neg hnil]
  rw [hE, if_pos rfl] at z25
  have h0 : 0 < l.length := List.length_pos_iff.2 hnil
  have n2 : ¬ (l.length : Int) = 0 := by omega
  have hls : limsErr a b L M = 0 := by
    unfold tskErr at ht; split at ht
    · contradiction
    · simp_all
  have hll : listErr l = 0 := by unfold tskErr at ht; rw [if_neg (by simpa using hls)] at ht; exact ht
  obtain ⟨oL, oM⟩ := lims_ok hls
  have z26 := z26 hP hX p hb0 oL oM hw hll h0
  simp only [Lim.cells, List.cons_append, List.nil_append] at z26
  generalize permN a b r s l L M = n at *
  simp [xf5, hl, a0, a1, a2, hA, t29, f1, f2, z10, t33, hb0, ht, t31, z19, z25, z23, z26, hnil, n2, hw.xlen, ha.one, ha.strip, ha.free, hb.one, hb.strip, hb.free, hw.one, hw.strip, hw.free, ha'.one, ha'.strip, ha'.free, hb'.one, hb'.strip, hb'.free, rds_strip, rds_free, Store.empty, Store.new, Store.put, Store.get, look, putL, setR, Store.only, Store.merge, touch, wrote, upTo, isIn, okRec, hits, capsOf, xcaps, stripL, AVal.strip, freeL, AVal.free, fillR, chunks, mkV, List.filter]
end
end Go.Proofs.YtbgjmclpahganaaGreat.Eng
