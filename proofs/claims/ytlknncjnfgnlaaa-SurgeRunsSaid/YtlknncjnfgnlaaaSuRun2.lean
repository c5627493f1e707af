/-
  SURGE: the law of runs.
-/
import Derived.Test.YtlknncjnfgnlaaaSuRun1
namespace Go.Proofs.Ytlknncjnfgnlaaa.Eng
set_option linter.unusedSimpArgs false
set_option linter.unusedVariables false
def one (L : List Int) : Int := L.getD 0 0
def F4 (r : Ru) (b : Bx) (k : Int) (L : List Int) (w : AVal) (tm : List AVal) (σ : Store) : Prop :=
  tm.length = 199 ∧ XOpd.eval tm (.t 3) = .ptr 0 0 ∧ XOpd.eval tm (.t 4) = .ptr 1 0 ∧ XOpd.eval tm (.t 5) = .ptr 2 0 ∧ XOpd.eval tm (.t 7) = .ptr 3 0 ∧
  XOpd.eval tm (.t 8) = (if rnE r (b.a, b.d) L k = 0 then lstV 2 ((stL r (b.a, b.d) k L L.length).map st) else .nils) ∧ XOpd.eval tm (.t 9) = .int .i64 (rnE r (b.a, b.d) L k) ∧
  XOpd.eval tm (.t 10) = (if brE r b L = 0 then lstV 4 ((bxL r b L L.length).map Bx.enc) else .nils) ∧ XOpd.eval tm (.t 11) = .int .i64 (brE r b L) ∧ XOpd.eval tm (.t 12) = .int .i64 (one L) ∧
  σ.get 0 = some (.cells [.int .i64 r.n, .int .i64 r.a, .int .i64 r.lo, .int .i64 r.hi, .int .i64 r.th]) ∧ σ.get 1 = some (.cells [.int .i64 b.a, .int .i64 b.b, .int .i64 b.c, .int .i64 b.d]) ∧ σ.get 2 = some (.cells [w, .int .i64 k]) ∧ σ.get 3 = some (.cells [.int .i64 b.a, .int .i64 b.d]) ∧ σ.next = 4
theorem one_ld {L : List Int} (h : ldE (one L) ≠ 0) : lsE L ≠ 0 := by
  intro h0
  cases L with
  | nil => exact h rfl
  | cons x l =>
    have := (lsE_ok h0).2 0 (by simp)
    refine h ?_
    unfold ldE one
    rw [if_pos (win_iff.2 this)]
section
variable {X : FuncId → Option XFunc} (hX : SuCCode X)
include hX
set_option maxHeartbeats 16000000 in
theorem u4 (hA : ∀ σ, Run X (.call 14) [] σ = some (.ret, [.bool true], σ)) (r : Ru) (b : Bx) (k : Int) {L : List Int} {w : AVal} (hw : IL L w) (σ : Store) :
    Run X (.call 4) [r.enc, b.enc, .agg [w, .int .i64 k]] σ = some (.ret, [.bool true], σ) := by
  have hS := hX.suB.suA
  have hfw := hw.free; have hsw := hw.strip; have how := hw.one; have hcw := hw.cells; have hx := hw.xlen
  have u23 := u23 hX hw
  refine call3 (a := r.enc) (b := b.enc) (c := .agg [w, .int .i64 k]) (v := .bool true) hX.h4 rfl rfl (by simp [AVal.strip, stripL, AVal.free, freeL, hsw, hfw]) (by decide) (fun tm hl h0 h1 h2 => ?_) rfl σ
  simp only [AVal.strip, stripL, Ru.enc, Bx.enc, hsw] at h0 h1 h2
  replace hl : tm.length = 199 := hl
  by_cases sh : (L.length : Int) ≤ 40 ∨ (200 < (L.length : Int) ∧ (L.length : Int) ≤ 202)
  case neg =>
    have : (decide ((L.length : Int) ≤ 40) || (decide (200 < (L.length : Int)) && decide ((L.length : Int) ≤ 202))) = false := by
      simp only [Bool.or_eq_false_iff, Bool.and_eq_false_iff, decide_eq_false_iff_not]; omega
    rw [this] at u23
    unfold Gives
    simp [xf4, hl, h0, h1, h2, hA, u23, how, hsw, hfw, Store.empty, Store.new, Store.put, Store.get, look, putL, setR, Store.only, Store.merge, touch, wrote, upTo, isIn, okRec, hits, capsOf, xcaps, stripL, AVal.strip, freeL, AVal.free, fillR, chunks, mkV, List.filter]
  have shT : (decide ((L.length : Int) ≤ 40) || (decide (200 < (L.length : Int)) && decide ((L.length : Int) ≤ 202))) = true := by
    simp only [Bool.or_eq_true, Bool.and_eq_true, decide_eq_true_eq]; exact sh
  rw [shT] at u23
  have hn : L.length ≤ 1000000 := by omega
  obtain ⟨w', hw', u25⟩ := u25 hX hw hn
  have hfw' := hw'.free; have hsw' := hw'.strip; have how' := hw'.one
  have u24 := u24 hX (r := r) (s := (b.a, b.d)) (k := k) hw' hn
  have u26 := u26 hX (r := r) (b := b) hw' hn
  simp only [Ru.enc, Bx.enc, st] at u24 u26
  have eb : xf4.body = .seq xf4.body.fst (.seq xf4.body.snd.fst (.seq xf4.body.snd.snd.fst (.seq xf4.body.snd.snd.snd.fst (.seq xf4.body.snd.snd.snd.snd.fst (.seq xf4.body.snd.snd.snd.snd.snd.fst (.seq xf4.body.snd.snd.snd.snd.snd.snd.fst (.seq xf4.body.snd.snd.snd.snd.snd.snd.snd.fst xf4.body.snd.snd.snd.snd.snd.snd.snd.snd))))))) := rfl
  have eP : Ends (Run X (.code (.seq (.seq (.seq (.seq (.seq (.seq (.seq xf4.body.fst xf4.body.snd.fst) xf4.body.snd.snd.fst) xf4.body.snd.snd.snd.fst) xf4.body.snd.snd.snd.snd.fst) xf4.body.snd.snd.snd.snd.snd.fst) xf4.body.snd.snd.snd.snd.snd.snd.fst) xf4.body.snd.snd.snd.snd.snd.snd.snd.fst)) tm Store.empty) .normal fun tm σ => F4 r b k L w tm σ := by
    have hq : w' = .nils ∨ w' = .list 1 (ints L) none := hw'.elim (fun h => .inl h.2) .inr
    rcases hq with rfl | rfl
    all_goals
      by_cases hp : (0 : Int) < L.length
      · have hwl := hw.list (by omega)
        subst hwl
        have hne : 0 < L.length := by omega
        have hg : (ints L)[0]? = some (.int .i64 (one L)) := by rw [ints_get (by omega)]; congr 2; unfold one; simp [show 0 < L.length by omega]
        simp [F4, xf4, XCode.fst, XCode.snd, hl, h0, h1, h2, hA, u23, u24, u25, u26, hp, hne, hx, hg, how, hsw, hfw, how', hsw', hfw', AVal.cells, ints_fr, freeL_strip (ints_fr L), Store.empty, Store.new, Store.put, Store.get, look, putL, setR, Store.only, Store.merge, touch, wrote, upTo, isIn, okRec, hits, capsOf, xcaps, stripL, AVal.strip, freeL, AVal.free, fillR, chunks, mkV, List.filter]
      · have h1L : one L = 0 := by
          have : L = [] := List.eq_nil_of_length_eq_zero (by omega)
          rw [this]; rfl
        have hne : ¬ 0 < L.length := by omega
        have hq2 : w = .nils ∨ w = .list 1 (ints L) none := hw.elim (fun h => .inl h.2) .inr
        rcases hq2 with rfl | rfl
        · simp [F4, xf4, XCode.fst, XCode.snd, hl, h0, h1, h2, hA, u23, u24, u25, u26, hp, hne, hx, h1L, how', hsw', hfw', AVal.cells, ints_fr, freeL_strip (ints_fr L), Store.empty, Store.new, Store.put, Store.get, look, putL, setR, Store.only, Store.merge, touch, wrote, upTo, isIn, okRec, hits, capsOf, xcaps, stripL, AVal.strip, freeL, AVal.free, fillR, chunks, mkV, List.filter]
        · simp [F4, xf4, XCode.fst, XCode.snd, hl, h0, h1, h2, hA, u23, u24, u25, u26, hp, hne, hx, h1L, how', hsw', hfw', AVal.cells, ints_fr, freeL_strip (ints_fr L), Store.empty, Store.new, Store.put, Store.get, look, putL, setR, Store.only, Store.merge, touch, wrote, upTo, isIn, okRec, hits, capsOf, xcaps, stripL, AVal.strip, freeL, AVal.free, fillR, chunks, mkV, List.filter]
  obtain ⟨o1, hl, h3, h4, h5, h7, h8, h9, h10, h11, h12, g0, g1, g2, g3, nx⟩ := out_of eP
  unfold Gives
  rw [eb, seq_left, seq_left, seq_left, seq_left, seq_left, seq_left, seq_left, Run_seq, o1, thenC_normal]
  generalize outT X _ tm Store.empty = tm1 at *
  generalize outS X _ tm Store.empty = σ1 at *
  have u16 := u16 hS r; have u18 := u18 hS (b.a, b.d); have u28 := u28 hX hw (by omega); have u21 := u21 hS r k
  have u31 := u31 hX.suB b; have u32 := u32 hX.suB r b; have u20 := u20 hS (one L)
  have u27 := u27 hX.suB r b (one L)
  simp only [Ru.enc, Bx.enc, st] at u16 u18 u21 u31 u32 u27
  by_cases c1 : r.e = 0
  case neg =>
    have e1 : rnE r (b.a, b.d) L k = r.e := by unfold rnE; rw [if_neg c1]
    have e2 : brE r b L = r.e := by unfold brE; rw [if_neg c1]
    have e3 : bsE r b (one L) = r.e := by unfold bsE; rw [if_neg c1]
    simp only [e1, e2, e3, c1, if_false] at h8 h9 h10 h11 u27 u32
    simp [xf4, XCode.fst, XCode.snd, hl, h3, h4, h5, h7, h8, h9, h10, h11, h12, g0, g1, g2, g3, nx, u16, u27, u31, u32, c1, xlen, how, hsw, hfw, put_next, new_next, Store.get_new, Store.get_put, put_get, setR, only_get, merge_get', only_next, merge_next, upTo_self, upTo_one, merge_only, touch, wrote, isIn, okRec, hits, capsOf, xcaps, stripL, AVal.strip, freeL, AVal.free, fillR, chunks, mkV]
    done
  have hz : ∀ P Q : Prop, True := fun _ _ => trivial
  have er : rnE r (b.a, b.d) L k = (if stE (b.a, b.d) = 0 then (if lsE L = 0 then frE r k else lsE L) else stE (b.a, b.d)) := by unfold rnE; rw [if_pos c1]
  have eb' : brE r b L = (if bxE b = 0 then lsE L else bxE b) := by unfold brE; rw [if_pos c1]
  have es : bsE r b (one L) = (if bxE b = 0 then ldE (one L) else bxE b) := by unfold bsE; rw [if_pos c1]
  rw [if_pos c1] at u32
  have u30 : rnE r (b.a, b.d) L k = 0 → ∀ σ, Run X (.call 30) [.agg [.int .i64 r.n, .int .i64 r.a, .int .i64 r.lo, .int .i64 r.hi, .int .i64 r.th], .agg [.int .i64 b.a, .int .i64 b.d], w, .int .i64 k] σ = some (.ret, [lstV 2 ((stL r (b.a, b.d) k L L.length).map st)], σ) := fun h σ => by
    have i := rnE_in h
    have := u30 hX (r := r) (x := k) hw i.n (sq := sS r (b.a, b.d) k L) (fun j hj σ => u22 hS (i.sin j hj) σ) σ
    unfold stL; rw [range_map]; exact this
  have u35 : brE r b L = 0 → ∀ σ, Run X (.call 35) [.agg [.int .i64 r.n, .int .i64 r.a, .int .i64 r.lo, .int .i64 r.hi, .int .i64 r.th], .agg [.int .i64 b.a, .int .i64 b.b, .int .i64 b.c, .int .i64 b.d], w] σ = some (.ret, [lstV 4 ((bxL r b L L.length).map Bx.enc)], σ) := fun h σ => by
    have i := brE_in h
    have := u35 hX (r := r) (x := 0) hw i.n (sq := sB r b L) (fun j hj σ => u33 hX.suB (i.bin j hj) σ) σ
    unfold bxL; rw [range_map]; exact this
  have u33 : bsE r b (one L) = 0 → ∀ σ, Run X (.call 33) [.agg [.int .i64 r.n, .int .i64 r.a, .int .i64 r.lo, .int .i64 r.hi, .int .i64 r.th], .agg [.int .i64 b.a, .int .i64 b.b, .int .i64 b.c, .int .i64 b.d], .int .i64 (one L)] σ = some (.ret, [(boxS r b (one L)).enc], σ) := fun h σ => u33 hX.suB (bsE_in h) σ
  have u29 := u29 hX (stL r (b.a, b.d) k L L.length) (by simp [stL]; omega)
  have u34 := u34 hX (bxL r b L L.length) (by simp [bxL]; omega)
  have l1 := lstV_len (s := 2) ((stL r (b.a, b.d) k L L.length).map st)
  have l2 := lstV_len (s := 4) ((bxL r b L L.length).map Bx.enc)
  have ol := one_ld (L := L)
  generalize rnE r (b.a, b.d) L k = eR at *
  generalize brE r b L = eB at *
  generalize bsE r b (one L) = eS at *
  generalize lstV 2 ((stL r (b.a, b.d) k L L.length).map st) = W2 at *
  generalize lstV 4 ((bxL r b L L.length).map Bx.enc) = W4 at *
  generalize boxS r b (one L) = cb at *
  simp only [Bx.enc] at u33 u27
  generalize stE (b.a, b.d) = x1 at *
  generalize lsE L = x2 at *
  generalize frE r k = x3 at *
  generalize bxE b = x4 at *
  generalize ldE (one L) = x5 at *
  generalize one L = oL at *
  by_cases d1 : x1 = 0 <;> by_cases d2 : x2 = 0 <;> by_cases d3 : x3 = 0 <;> by_cases d4 : x4 = 0 <;> by_cases d5 : x5 = 0
  all_goals (simp only [d1, d2, d3, d4, d5, if_true, if_false, ne_eq, not_true_eq_false, not_false_eq_true, forall_const, false_implies, true_implies, not_false_iff] at er eb' es ol)
  all_goals (try (exfalso; exact ol))
  all_goals (subst er; subst eb'; subst es)
  all_goals (simp only [d1, d2, d3, d4, d5, if_true, if_false, true_implies, forall_const] at h8 h9 h10 h11 u27 u30 u35 u33)
  all_goals (simp [xf4, XCode.fst, XCode.snd, hl, h3, h4, h5, h7, h8, h9, h10, h11, h12, g0, g1, g2, g3, nx, u16, u18, u20, u21, u27, u28, u29, u30, u31, u32, u33, u34, u35, l1, l2, c1, d1, d2, d3, d4, d5, xlen, how, hsw, hfw, Bx.enc, put_next, new_next, Store.get_new, Store.get_put, put_get, setR, only_get, merge_get', only_next, merge_next, upTo_self, upTo_one, merge_only, touch, wrote, isIn, okRec, hits, capsOf, xcaps, stripL, AVal.strip, freeL, AVal.free, fillR, chunks, mkV])
end
end Go.Proofs.Ytlknncjnfgnlaaa.Eng
