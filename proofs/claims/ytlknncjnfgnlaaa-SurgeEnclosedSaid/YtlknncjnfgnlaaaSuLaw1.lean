/-
  SURGE: the law of runs that stay in boxes.
-/
import Derived.Test.YtlknncjnfgnlaaaSuRun1
import Derived.Test.YtlknncjnfgnlaaaEng3
namespace Go.Proofs.Ytlknncjnfgnlaaa.Eng
set_option linter.unusedSimpArgs false
set_option linter.unusedVariables false
def sts (L : List (Int × Int)) : List AVal := L.map st
def lat (L : List (Int × Int)) (i : Nat) : Int × Int := L.getD i (0, 0)
def SL (L : List (Int × Int)) (w : AVal) : Prop := (L = [] ∧ w = .nils) ∨ w = .list 2 (sts L) none
theorem sts_free (L : List (Int × Int)) : freeL (sts L) = true := by
  induction L with
  | nil => rfl
  | cons e l ih =>
    show freeL (st e :: sts l) = true
    simp [freeL, AVal.free, st, ih]
theorem SL.strip {L : List (Int × Int)} {w : AVal} (h : SL L w) : w.strip = w := by
  rcases h with ⟨_, rfl⟩ | rfl
  · rfl
  · simp [AVal.strip, freeL_strip (sts_free L)]
theorem SL.free {L : List (Int × Int)} {w : AVal} (h : SL L w) : w.free = true := by
  rcases h with ⟨_, rfl⟩ | rfl
  · rfl
  · simp [AVal.free, sts_free L]
theorem SL.xlen {L : List (Int × Int)} {w : AVal} (h : SL L w) : Go.Proofs.Ytlknncjnfgnlaaa.Eng.xlen w = some (.int .i64 L.length) := by
  rcases h with ⟨rfl, rfl⟩ | rfl
  · rfl
  · simp [Go.Proofs.Ytlknncjnfgnlaaa.Eng.xlen, sts]
theorem SL.list {L : List (Int × Int)} {w : AVal} (h : SL L w) (h0 : 0 < L.length) : w = .list 2 (sts L) none := by
  rcases h with ⟨rfl, rfl⟩ | rfl
  · simp at h0
  · rfl
theorem sts_get {L : List (Int × Int)} {i : Nat} (h : i < L.length) : (sts L)[i]? = some (.agg [.int .i64 (lat L i).1, .int .i64 (lat L i).2]) := by
  simp [sts, lat, h, st]
/-- Does the loop come to its end? -/
def ru6 (r : Ru) (L : List (Int × Int)) : Nat → Nat → Bx → Bx → Int × Int → Bool
  | 0, _, _, _, _ => true
  | k + 1, i, b, sm, s => if ldE (lat L i).1 ≠ 0 then false else if frE r (lat L i).2 ≠ 0 then false else
    if stE (stepS r s (lat L i).1 (lat L i).2) ≠ 0 then false else if bxE (boxS r b (lat L i).1) ≠ 0 then false else if bxE (boxS r sm (lat L i).1) ≠ 0 then false else
    ru6 r L k (i + 1) (boxS r b (lat L i).1) (boxS r sm (lat L i).1) (stepS r s (lat L i).1 (lat L i).2)
def exB (b : Bool) : XExit := if b then .exit 0 else .ret
def I6 (r : Ru) (w : AVal) (b sm : Bx) (s : Int × Int) (t : Nat) (tm : List AVal) (σ : Store) : Prop :=
  tm.length = 212 ∧ XOpd.eval tm (.t 2) = w ∧ XOpd.eval tm (.t 3) = .ptr 0 0 ∧ XOpd.eval tm (.t 7) = .ptr 2 0 ∧ XOpd.eval tm (.t 8) = .ptr 3 0 ∧ XOpd.eval tm (.t 9) = .ptr 4 0 ∧ XOpd.eval tm (.t 10) = .int .i64 t ∧
  σ.get 0 = some (.cells [.int .i64 r.n, .int .i64 r.a, .int .i64 r.lo, .int .i64 r.hi, .int .i64 r.th]) ∧ σ.get 2 = some (.cells [.int .i64 b.a, .int .i64 b.b, .int .i64 b.c, .int .i64 b.d]) ∧ σ.get 3 = some (.cells [.int .i64 s.1, .int .i64 s.2]) ∧ σ.get 4 = some (.cells [.int .i64 sm.a, .int .i64 sm.b, .int .i64 sm.c, .int .i64 sm.d]) ∧ 5 ≤ σ.next
section
variable {X : FuncId → Option XFunc} (hX : SuBCode X)
include hX
set_option maxHeartbeats 16000000 in
theorem loop6 {r : Ru} (he : r.e = 0) {L : List (Int × Int)} {w : AVal} (hw : SL L w) (hn : L.length ≤ 1000000) : ∀ (k i : Nat), i + k = L.length → ∀ (b sm : Bx) (s : Int × Int), EnI b sm s → ∀ (tm : List AVal) (σ : Store), I6 r w b sm s i tm σ →
    Ends (Run X (.code (.loop xf6l0)) tm σ) (exB (ru6 r L k i b sm s)) fun tm' _ => tm'.length = 212 ∧ (ru6 r L k i b sm s = false → XOpd.eval tm' (.t 6) = .bool true)
  | 0, i, hk, b, sm, s, en, tm, σ, ⟨hl, h2, h3, h7, h8, h9, h10, g0, g2, g3, g4, nx⟩ => by
    have hi : i = L.length := by omega
    subst hi
    rw [Run_loop]
    simp [xf6l0, hl, h2, h10, hw.xlen, ru6, exB]
  | k + 1, i, hk, b, sm, s, en, tm, σ, ⟨hl, h2, h3, h7, h8, h9, h10, g0, g2, g3, g4, nx⟩ => by
    have hA := hX.suA
    have hi : i < L.length := by omega
    have ok := Ru.ok he
    obtain ⟨N, hN⟩ : ∃ N, σ.next = N + 5 := ⟨σ.next - 5, by omega⟩
    have hiw : IntKind.i64.wrap ((i : Int) + 1) = ((i + 1 : Nat) : Int) := by rw [wrap_i64] <;> omega
    have hx := hw.xlen
    have hwl := hw.list (by omega)
    subst hwl
    have hget := sts_get hi
    simp only [ru6]
    generalize (lat L i) = p at *
    obtain ⟨u, q⟩ := p
    simp only at hget ⊢
    have u20 := u20 hA u; have u21 := u21 hA r q
    simp only [Ru.enc] at u21
    have fS := sts_free L
    by_cases c1 : ldE u = 0
    case neg =>
      rw [if_pos c1, Run_loop]
      simp [xf6l0, exB, hl, h2, h3, h7, h8, h9, h10, g0, g2, g3, g4, hN, hi, hx, hget, u20, c1, AVal.cells, fS, put_next, new_next, Store.get_new, Store.get_put, put_get, setR, only_get, merge_get', only_next, merge_next, upTo_self, upTo_one, merge_only, touch, wrote, isIn, okRec, hits, capsOf, xcaps, stripL, AVal.strip, freeL, AVal.free, fillR, chunks, mkV]
      done
    rw [if_neg (by simpa using c1)]
    by_cases c2 : frE r q = 0
    case neg =>
      rw [if_pos c2, Run_loop]
      simp [xf6l0, exB, hl, h2, h3, h7, h8, h9, h10, g0, g2, g3, g4, hN, hi, hx, hget, u20, u21, c1, c2, AVal.cells, fS, put_next, new_next, Store.get_new, Store.get_put, put_get, setR, only_get, merge_get', only_next, merge_next, upTo_self, upTo_one, merge_only, touch, wrote, isIn, okRec, hits, capsOf, xcaps, stripL, AVal.strip, freeL, AVal.free, fillR, chunks, mkV]
      done
    rw [if_neg (by simpa using c2)]
    have hu : 0 ≤ u ∧ u ≤ 1000 := by
      unfold ldE at c1; split at c1 <;> try omega
      rename_i d; exact win_iff.1 d
    have hq : r.lo ≤ q ∧ q ≤ r.hi := by
      unfold frE at c2; split at c2 <;> try omega
      rename_i d; exact win_iff.1 d
    have es := en_step ok en hu.1 hu.2 hq.1 hq.2
    have kb := bxE_of en.kb; have ks := bxE_of en.ks
    have i1 := en.is; have sb := en.sub
    have bb := en.kb
    have es0 : stE s = 0 := by
      obtain ⟨a1, a2, a3, a4⟩ := i1; obtain ⟨b1, b2, b3, b4⟩ := sb
      have a0 := bb.a0; have e1 := bb.b1; have c0 := bb.c0; have d1 := bb.d1
      exact stE_of ⟨by omega, by omega⟩ ⟨by omega, by omega⟩
    have p1 : stpE r s u q = 0 := by unfold stpE; simp only [he, es0, c1, c2, if_true]
    have p2 : bsE r b u = 0 := by unfold bsE; simp only [he, kb, c1, if_true]
    have p3 : bsE r sm u = 0 := by unfold bsE; simp only [he, ks, c1, if_true]
    have y1 := u15 hA r s u q; have y2 := u27 hX r b u; have y3 := u27 hX r sm u
    rw [p1, if_pos rfl] at y1
    rw [p2, if_pos rfl] at y2
    rw [p3, if_pos rfl] at y3
    obtain ⟨j1, j2, j3, go⟩ := es
    have fl := box_flow r b u; have fm := box_flow r sm u; have fy := flow_in r s u q
    have ihh := loop6 he (L := L) hw hn k (i + 1) (by omega)
    generalize stepS r s u q = y at *
    generalize boxS r b u = c at *
    generalize boxS r sm u = d at *
    have v1 := u36 hX c y; have v2 := u36 hX d y; have v3 := u18 hA y; have v4 := u31 hX c; have v5 := u31 hX d
    have n1 : win y.1 c.a c.b = true := win_iff.2 ⟨j1.1, j1.2.1⟩
    have n2 : win y.2 c.c c.d = true := win_iff.2 ⟨j1.2.2.1, j1.2.2.2⟩
    have n3 : win y.1 d.a d.b = true := win_iff.2 ⟨j2.1, j2.2.1⟩
    have n4 : win y.2 d.c d.d = true := win_iff.2 ⟨j2.2.2.1, j2.2.2.2⟩
    rw [n1, n2] at v1
    rw [n3, n4] at v2
    simp only [Ru.enc, Bx.enc, st] at y1 y2 y3 v1 v2 v3 v4 v5
    obtain ⟨s1, s2, s3, s4⟩ := j3
    have l1 : ¬ d.a < c.a := by omega
    have l2 : ¬ c.b < d.b := by omega
    have l3 : ¬ d.c < c.c := by omega
    have l4 : ¬ c.d < d.d := by omega
    have wa := u37 hA c.a (-100000) 100000; have wb := u37 hA c.b (-100000) 100000
    by_cases e1 : stE y = 0 ∧ bxE c = 0 ∧ bxE d = 0
    · obtain ⟨e1, e2, e3⟩ := e1
      rw [if_neg (by simpa using e1), if_neg (by simpa using e2), if_neg (by simpa using e3)]
      have kc := bx_ok e2
      have en' := go kc.a0 kc.b1
      have key : Ends (Run X (.code xf6l0) tm σ) .normal fun tm' σ' => I6 r (.list 2 (sts L) none) c d y (i + 1) tm' σ' := by
        simp [xf6l0, I6, hl, h2, h3, h7, h8, h9, h10, g0, g2, g3, g4, hN, hi, hx, hget, u20, u21, c1, c2, y1, y2, y3, v1, v2, v3, v4, v5, l1, l2, l3, l4, e1, e2, e3, hiw, AVal.cells, fS, put_next, new_next, Store.get_new, Store.get_put, put_get, setR, only_get, merge_get', only_next, merge_next, upTo_self, upTo_one, merge_only, touch, wrote, isIn, okRec, hits, capsOf, xcaps, stripL, AVal.strip, freeL, AVal.free, fillR, chunks, mkV]
      obtain ⟨o1, o2⟩ := out_of key
      rw [Run_loop, o1, thenC_normal]
      exact ihh _ _ _ en' _ _ o2
    · have hwin : (win c.a (-100000) 100000 && win c.b (-100000) 100000) = false := by
        cases hh : (win c.a (-100000) 100000 && win c.b (-100000) 100000) with
        | false => rfl
        | true =>
          exfalso
          simp only [Bool.and_eq_true, win_iff] at hh
          have en' := go hh.1.1 hh.2.2
          refine e1 ⟨?_, bxE_of en'.kb, bxE_of en'.ks⟩
          obtain ⟨a1, a2, a3, a4⟩ := j1
          exact stE_of ⟨by omega, by omega⟩ fy
      have hf : (if stE y ≠ 0 then false else if bxE c ≠ 0 then false else if bxE d ≠ 0 then false else ru6 r L k (i + 1) c d y) = false := by
        by_cases e2 : stE y = 0
        · by_cases e3 : bxE c = 0
          · by_cases e4 : bxE d = 0
            · exact absurd ⟨e2, e3, e4⟩ e1
            · simp [e2, e3, e4]
          · simp [e2, e3]
        · simp [e2]
      rw [hf, Run_loop]
      cases z1 : win c.a (-100000) 100000
      all_goals rw [z1] at wa hwin
      · by_cases e2 : stE y = 0
        · by_cases e3 : bxE c = 0
          · have e4 : ¬ bxE d = 0 := fun h => e1 ⟨e2, e3, h⟩
            simp [xf6l0, exB, hl, h2, h3, h7, h8, h9, h10, g0, g2, g3, g4, hN, hi, hx, hget, u20, u21, c1, c2, y1, y2, y3, v1, v2, v3, v4, v5, l1, l2, l3, l4, e2, e3, e4, wa, AVal.cells, fS, put_next, new_next, Store.get_new, Store.get_put, put_get, setR, only_get, merge_get', only_next, merge_next, upTo_self, upTo_one, merge_only, touch, wrote, isIn, okRec, hits, capsOf, xcaps, stripL, AVal.strip, freeL, AVal.free, fillR, chunks, mkV]
          · simp [xf6l0, exB, hl, h2, h3, h7, h8, h9, h10, g0, g2, g3, g4, hN, hi, hx, hget, u20, u21, c1, c2, y1, y2, y3, v1, v2, v3, v4, v5, l1, l2, l3, l4, e2, e3, wa, AVal.cells, fS, put_next, new_next, Store.get_new, Store.get_put, put_get, setR, only_get, merge_get', only_next, merge_next, upTo_self, upTo_one, merge_only, touch, wrote, isIn, okRec, hits, capsOf, xcaps, stripL, AVal.strip, freeL, AVal.free, fillR, chunks, mkV]
        · simp [xf6l0, exB, hl, h2, h3, h7, h8, h9, h10, g0, g2, g3, g4, hN, hi, hx, hget, u20, u21, c1, c2, y1, y2, y3, v1, v2, v3, v4, v5, l1, l2, l3, l4, e2, wa, AVal.cells, fS, put_next, new_next, Store.get_new, Store.get_put, put_get, setR, only_get, merge_get', only_next, merge_next, upTo_self, upTo_one, merge_only, touch, wrote, isIn, okRec, hits, capsOf, xcaps, stripL, AVal.strip, freeL, AVal.free, fillR, chunks, mkV]
      · rw [Bool.true_and] at hwin
        rw [hwin] at wb
        by_cases e2 : stE y = 0
        · by_cases e3 : bxE c = 0
          · have e4 : ¬ bxE d = 0 := fun h => e1 ⟨e2, e3, h⟩
            simp [xf6l0, exB, hl, h2, h3, h7, h8, h9, h10, g0, g2, g3, g4, hN, hi, hx, hget, u20, u21, c1, c2, y1, y2, y3, v1, v2, v3, v4, v5, l1, l2, l3, l4, e2, e3, e4, wa, wb, AVal.cells, fS, put_next, new_next, Store.get_new, Store.get_put, put_get, setR, only_get, merge_get', only_next, merge_next, upTo_self, upTo_one, merge_only, touch, wrote, isIn, okRec, hits, capsOf, xcaps, stripL, AVal.strip, freeL, AVal.free, fillR, chunks, mkV]
          · simp [xf6l0, exB, hl, h2, h3, h7, h8, h9, h10, g0, g2, g3, g4, hN, hi, hx, hget, u20, u21, c1, c2, y1, y2, y3, v1, v2, v3, v4, v5, l1, l2, l3, l4, e2, e3, wa, wb, AVal.cells, fS, put_next, new_next, Store.get_new, Store.get_put, put_get, setR, only_get, merge_get', only_next, merge_next, upTo_self, upTo_one, merge_only, touch, wrote, isIn, okRec, hits, capsOf, xcaps, stripL, AVal.strip, freeL, AVal.free, fillR, chunks, mkV]
        · simp [xf6l0, exB, hl, h2, h3, h7, h8, h9, h10, g0, g2, g3, g4, hN, hi, hx, hget, u20, u21, c1, c2, y1, y2, y3, v1, v2, v3, v4, v5, l1, l2, l3, l4, e2, wa, wb, AVal.cells, fS, put_next, new_next, Store.get_new, Store.get_put, put_get, setR, only_get, merge_get', only_next, merge_next, upTo_self, upTo_one, merge_only, touch, wrote, isIn, okRec, hits, capsOf, xcaps, stripL, AVal.strip, freeL, AVal.free, fillR, chunks, mkV]
end
end Go.Proofs.Ytlknncjnfgnlaaa.Eng

/-
  SURGE: the law of runs that stay in boxes, whole.
-/
namespace Go.Proofs.Ytlknncjnfgnlaaa.Eng
set_option linter.unusedSimpArgs false
set_option linter.unusedVariables false
section
variable {X : FuncId → Option XFunc} (hX : SuBCode X)
include hX
set_option maxHeartbeats 16000000 in
theorem u6 (hA : ∀ σ, Run X (.call 14) [] σ = some (.ret, [.bool true], σ)) (r : Ru) (b : Bx) (s : Int × Int) {L : List (Int × Int)} {w : AVal} (hw : SL L w) (σ : Store) :
    Run X (.call 6) [r.enc, .agg [.int .i64 b.a, .int .i64 b.b, .int .i64 b.c, .int .i64 b.d, .int .i64 s.1, .int .i64 s.2], w] σ = some (.ret, [.bool true], σ) := by
  have hS := hX.suA
  have u16 := u16 hS r; have u31 := u31 hX b
  simp only [Ru.enc, Bx.enc] at u16 u31
  refine call3 (a := r.enc) (v := .bool true) hX.h6 rfl rfl (by rw [hw.strip]; exact hw.free) (by decide) (fun tm hl h0 h1 h2 => ?_) rfl σ
  simp only [AVal.strip, stripL, Ru.enc] at h0 h1
  rw [hw.strip] at h2
  replace hl : tm.length = 212 := hl
  have hx := hw.xlen
  unfold Gives
  by_cases c1 : r.e = 0
  case neg => simp [xf6, hl, h0, h1, h2, hA, u16, c1, Store.empty, Store.new, Store.put, Store.get, look, putL, setR, Store.only, Store.merge, touch, wrote, upTo, isIn, okRec, hits, capsOf, xcaps, stripL, AVal.strip, freeL, AVal.free, fillR, chunks, mkV, List.filter]
  by_cases c2 : bxE b = 0
  case neg => simp [xf6, hl, h0, h1, h2, hA, u16, u31, c1, c2, Store.empty, Store.new, Store.put, Store.get, look, putL, setR, Store.only, Store.merge, touch, wrote, upTo, isIn, okRec, hits, capsOf, xcaps, stripL, AVal.strip, freeL, AVal.free, fillR, chunks, mkV, List.filter]
  by_cases c3 : 20 < (L.length : Int)
  · simp [xf6, hl, h0, h1, h2, hA, u16, u31, c1, c2, c3, hx, Store.empty, Store.new, Store.put, Store.get, look, putL, setR, Store.only, Store.merge, touch, wrote, upTo, isIn, okRec, hits, capsOf, xcaps, stripL, AVal.strip, freeL, AVal.free, fillR, chunks, mkV, List.filter]
  have kb := bx_ok c2
  have ka0 := kb.a0; have ka1 := kb.a1; have kb0 := kb.b0; have kb1 := kb.b1; have kc0 := kb.c0; have kc1 := kb.c1; have kd0 := kb.d0; have kd1 := kb.d1; have kab := kb.ab; have kcd := kb.cd
  obtain ⟨z, hz⟩ : ∃ z, z = if (if b.a < s.1 then s.1 else b.a) < b.b then (if b.a < s.1 then s.1 else b.a) else b.b := ⟨_, rfl⟩
  obtain ⟨q, hq⟩ : ∃ q, q = if (if b.c < s.2 then s.2 else b.c) < b.d then (if b.c < s.2 then s.2 else b.c) else b.d := ⟨_, rfl⟩
  have hz1 : b.a ≤ z ∧ z ≤ b.b := by rw [hz]; split <;> split <;> omega
  have hq1 : b.c ≤ q ∧ q ≤ b.d := by rw [hq]; split <;> split <;> omega
  have en : EnI b ⟨b.a, z, q, b.d⟩ (z, q) := by
    refine ⟨kb, ?_, ?_, ?_⟩
    · constructor <;> simp only <;> omega
    · exact ⟨hz1.1, Int.le_refl _, Int.le_refl _, hq1.2⟩
    · exact ⟨Int.le_refl _, hz1.2, hq1.1, Int.le_refl _⟩
  have hL := fun tm σ h => out_of (loop6 hX c1 hw (by omega) L.length 0 (by omega) b ⟨b.a, z, q, b.d⟩ (z, q) en tm σ h)
  simp only [I6] at hL
  have c0 : ((0 : Nat) : Int) = 0 := rfl
  simp only [c0] at hL
  cases hf : ru6 r L L.length 0 b ⟨b.a, z, q, b.d⟩ (z, q)
  · simp only [hf, exB] at hL
    simp (maxDischargeDepth := 24) [xf6, hl, h0, h1, h2, hA, u16, u31, c1, c2, c3, hx, xext, xmm, ← hz, ← hq, hL, Store.empty, Store.new, Store.put, Store.get, look, putL, setR, Store.only, Store.merge, touch, wrote, upTo, isIn, okRec, hits, capsOf, xcaps, stripL, AVal.strip, freeL, AVal.free, fillR, chunks, mkV, List.filter]
  · simp only [hf, exB] at hL
    simp (maxDischargeDepth := 24) [xf6, hl, h0, h1, h2, hA, u16, u31, c1, c2, c3, hx, xext, xmm, ← hz, ← hq, hL, Store.empty, Store.new, Store.put, Store.get, look, putL, setR, Store.only, Store.merge, touch, wrote, upTo, isIn, okRec, hits, capsOf, xcaps, stripL, AVal.strip, freeL, AVal.free, fillR, chunks, mkV, List.filter]
end
end Go.Proofs.Ytlknncjnfgnlaaa.Eng
