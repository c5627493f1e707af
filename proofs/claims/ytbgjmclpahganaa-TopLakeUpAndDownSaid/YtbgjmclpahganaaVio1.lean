/-
  VIOLATIONS, A: levels that are compared.
-/
import Derived.Test.YtbgjmclpahganaaRuns1
import Derived.Test.YtbgjmclpahganaaCode1
import Derived.Test.YtbgjmclpahganaaRead1
namespace Go.Proofs.Ytbgjmclpahganaa.Eng
set_option linter.unusedSimpArgs false
set_option linter.unusedVariables false

abbrev Lim := Int × Int × Int × Int × Int
def Lim.cells (L : Lim) : List AVal := [.int .i64 L.1, .int .i64 L.2.1, .int .i64 L.2.2.1, .int .i64 L.2.2.2.1, .int .i64 L.2.2.2.2]
/-- The level at a volume, exactly: whole, part, denominator. -/
def mx (l : List Kn) (x : Int) : Rd := ((levR l x).1, sNum x (kat l (vix l x - 1)).2 (kat l (vix l x - 1)).1 (kat l (vix l x)).1 % ((kat l (vix l x)).2 - (kat l (vix l x - 1)).2), (kat l (vix l x)).2 - (kat l (vix l x - 1)).2)
def exc (m o : Rd) (n : Int) : Bool := if m.1 - o.1 - n = 0 then decide (o.2.1 * m.2.2 < m.2.1 * o.2.2) else decide (0 < m.1 - o.1 - n)
structure MOk (m : Rd) : Prop where
  a0 : 0 ≤ m.1
  a1 : m.1 ≤ 1000000
  b0 : 0 ≤ m.2.1
  b1 : m.2.1 < m.2.2
  b2 : m.2.2 ≤ 1000000000
def whl (n : Int) : Rd := (n, 0, 1)
theorem whl_ok {n : Int} (h0 : 0 ≤ n) (h1 : n ≤ 1000000) : MOk (whl n) := ⟨h0, h1, by simp [whl], by simp [whl], by simp [whl]⟩
theorem mx_ok {l : List Kn} (t : Tab l) {x : Int} (h : isVol l x = true) : MOk (mx l x) := by
  have s := vix_s t h
  obtain ⟨j1, j2, j3, j4⟩ := vix_in t h
  have i1 := t.inr _ j2; have i2 := t.inr (vix l x - 1) (by omega); have i3 := t.inc _ j1 j2
  unfold InR at i1 i2
  obtain ⟨k1, k2, k3, k4, k5⟩ := s.lo
  have e1 : (mx l x).1 = sLo x (kat l (vix l x - 1)).2 (kat l (vix l x)).2 (kat l (vix l x - 1)).1 (kat l (vix l x)).1 := rfl
  have e2 : (mx l x).2.1 = sNum x (kat l (vix l x - 1)).2 (kat l (vix l x - 1)).1 (kat l (vix l x)).1 % ((kat l (vix l x)).2 - (kat l (vix l x - 1)).2) := rfl
  have e3 : (mx l x).2.2 = (kat l (vix l x)).2 - (kat l (vix l x - 1)).2 := rfl
  have m0 := Int.emod_nonneg (sNum x (kat l (vix l x - 1)).2 (kat l (vix l x - 1)).1 (kat l (vix l x)).1) (b := (kat l (vix l x)).2 - (kat l (vix l x - 1)).2) (by omega)
  have m1 := Int.emod_lt_of_pos (sNum x (kat l (vix l x - 1)).2 (kat l (vix l x - 1)).1 (kat l (vix l x)).1) (b := (kat l (vix l x)).2 - (kat l (vix l x - 1)).2) (by omega)
  constructor <;> omega
/-- The numerator of the whole number. -/
def mnum (m : Rd) : Int := m.1 * m.2.2 + m.2.1
theorem exc_iff {m o : Rd} (hm : MOk m) (ho : MOk o) (n : Int) : exc m o n = true ↔ n * (m.2.2 * o.2.2) < mnum m * o.2.2 - mnum o * m.2.2 := by
  obtain ⟨m1, p, d⟩ := m
  obtain ⟨o1, q, e⟩ := o
  obtain ⟨_, _, a3, a4, _⟩ := hm
  obtain ⟨_, _, b3, b4, _⟩ := ho
  simp only [exc, mnum] at *
  have pe0 : 0 ≤ p * e := Int.mul_nonneg a3 (by omega)
  have qd0 : 0 ≤ q * d := Int.mul_nonneg b3 (by omega)
  have pe1 : p * e < d * e := Int.mul_lt_mul_of_pos_right a4 (by omega)
  have qd1 : q * d < d * e := by rw [Int.mul_comm d e]; exact Int.mul_lt_mul_of_pos_right b4 (by omega)
  have key : (m1 * d + p) * e - (o1 * e + q) * d - n * (d * e) = (m1 - o1 - n) * (d * e) + (p * e - q * d) := by
    have e1 : m1 * d * e = m1 * (d * e) := by rw [Int.mul_assoc]
    have e2 : o1 * e * d = o1 * (d * e) := by rw [Int.mul_assoc, Int.mul_comm e d]
    rw [Int.add_mul, Int.add_mul, Int.sub_mul, Int.sub_mul, e1, e2]; omega
  split
  · rename_i h0
    rw [h0, Int.zero_mul] at key
    rw [decide_eq_true_iff]; omega
  · rename_i h0
    rw [decide_eq_true_iff]
    generalize hE : m1 - o1 - n = E at *
    constructor
    · intro h
      have : 1 * (d * e) ≤ E * (d * e) := Int.mul_le_mul_of_nonneg_right (by omega) (by omega)
      omega
    · intro h
      by_cases hE0 : 0 < E
      · exact hE0
      · have : E * (d * e) ≤ (-1) * (d * e) := Int.mul_le_mul_of_nonneg_right (by omega) (by omega)
        omega
/-- What is violated. -/
def vb (a : List Kn) (L : Lim) (x y : Int) : Nat → Bool
  | 0 => exc (whl L.1) (mx a x) 0
  | 1 => exc (mx a x) (whl L.2.1) 0
  | 2 => exc (mx a y) (mx a x) L.2.2.1
  | _ => exc (mx a x) (mx a y) L.2.2.2.1
def IsV5 (num den : Int) (v : AVal) : Prop := ∃ n d, IsR n d v ∧ n * den = num * d ∧ ab n < pw 5 ∧ ab d < pw 2
theorem IsV5.told {n d : Int} : ∀ v, IsV5 n d v → Told (IsV5 n d) v := fun v ⟨n', d', h2, h1⟩ => ⟨by rw [h2.strip]; exact h2.free, n', d', by rw [h2.strip]; exact h2, h1⟩
/-- Limits that are valid. -/
structure LimOk (a : List Kn) (L : Lim) : Prop where
  lo : isLev a L.1 = true
  hi : isLev a L.2.1 = true
  f0 : 0 ≤ L.2.2.1
  f1 : L.2.2.1 ≤ 1000000
  r0 : 0 ≤ L.2.2.2.1
  r1 : L.2.2.2.1 ≤ 1000000
  w0 : 1 ≤ L.2.2.2.2
  w1 : L.2.2.2.2 ≤ 200
  le : L.1 ≤ L.2.1
theorem lev_in {a : List Kn} (t : Tab a) {x : Int} (h : isLev a x = true) : 0 ≤ x ∧ x ≤ 1000000 := by
  have a2 := t.two
  have i0 := t.inr 0 (by omega); have i1 := t.inr (a.length - 1) (by omega)
  have := isLev_iff.1 h
  unfold InR at i0 i1
  omega
section
variable {X : FuncId → Option XFunc} (hX : VVioCode X)
include hX
theorem z141 (n : Int) (σ : Store) : Run X (.call 78) [.int .i64 n] σ = some (.ret, [(whl n).enc], σ) := by
  refine call1 (v := (whl n).enc) hX.h78 rfl (by decide) (fun tm hl h0 => ?_) rfl σ
  simp only [AVal.strip] at h0
  replace hl : tm.length = 5 := hl
  unfold Gives
  simp [xf78, hl, h0, whl, Rd.enc, Store.empty, Store.new, Store.put, Store.get, look, putL, setR, Store.only, Store.merge, touch, wrote, upTo, isIn, okRec, hits, capsOf, xcaps, stripL, AVal.strip, freeL, AVal.free, fillR, chunks, mkV, List.filter]
theorem z142 {m o : Rd} (hm : MOk m) (ho : MOk o) {n : Int} (n0 : 0 ≤ n) (n1 : n ≤ 1000000) (σ : Store) : Run X (.call 79) [m.enc, o.enc, .int .i64 n] σ = some (.ret, [.bool (exc m o n)], σ) := by
  obtain ⟨m1, p, d⟩ := m
  obtain ⟨o1, q, e⟩ := o
  obtain ⟨a1, a2, a3, a4, a5⟩ := hm
  obtain ⟨b1, b2, b3, b4, b5⟩ := ho
  simp only at a1 a2 a3 a4 a5 b1 b2 b3 b4 b5
  have w1 : IntKind.i64.wrap (m1 - o1) = m1 - o1 := by rw [wrap_i64] <;> omega
  have w2 : IntKind.i64.wrap (m1 - o1 - n) = m1 - o1 - n := by rw [wrap_i64] <;> omega
  have w3 : IntKind.i64.wrap (p * e) = p * e := mul_ok (by omega) (by omega) (by omega) (by omega)
  have w4 : IntKind.i64.wrap (q * d) = q * d := mul_ok (by omega) (by omega) (by omega) (by omega)
  refine call3 (v := .bool (exc (m1, p, d) (o1, q, e) n)) hX.h79 rfl rfl rfl (by decide) (fun tm hl h0 h1 h2 => ?_) rfl σ
  simp only [AVal.strip, stripL, Rd.enc] at h0 h1 h2
  replace hl : tm.length = 30 := hl
  unfold Gives exc
  by_cases c : m1 - o1 - n = 0
  · simp [xf79, hl, h0, h1, h2, w1, w2, w3, w4, c, Store.empty, Store.new, Store.put, Store.get, look, putL, setR, Store.only, Store.merge, touch, wrote, upTo, isIn, okRec, hits, capsOf, xcaps, stripL, AVal.strip, freeL, AVal.free, fillR, chunks, mkV, List.filter]
  · simp [xf79, hl, h0, h1, h2, w1, w2, w3, w4, c, Store.empty, Store.new, Store.put, Store.get, look, putL, setR, Store.only, Store.merge, touch, wrote, upTo, isIn, okRec, hits, capsOf, xcaps, stripL, AVal.strip, freeL, AVal.free, fillR, chunks, mkV, List.filter]
theorem z120 {a : List Kn} (t : Tab a) {L : Lim} (hL : LimOk a L) {x y : Int} (hx : isVol a x = true) (hy : isVol a y = true) (σ : Store) :
    Run X (.call 69) [.agg L.cells, (mx a x).enc, (mx a y).enc] σ = some (.ret, [.agg [.bool (vb a L x y 0), .bool (vb a L x y 1), .bool (vb a L x y 2), .bool (vb a L x y 3)]], σ) := by
  have ox := mx_ok t hx; have oy := mx_ok t hy
  have l0 := lev_in t hL.lo; have l1 := lev_in t hL.hi
  have c0 := z142 hX (whl_ok l0.1 l0.2) ox (n := 0) (by omega) (by omega)
  have c1 := z142 hX ox (whl_ok l1.1 l1.2) (n := 0) (by omega) (by omega)
  have c2 := z142 hX oy ox hL.f0 hL.f1
  have c3 := z142 hX ox oy hL.r0 hL.r1
  have c4 := z141 hX L.1; have c5 := z141 hX L.2.1
  generalize hmx : mx a x = p at *
  generalize hmy : mx a y = q at *
  simp only [vb, hmx, hmy]
  refine call3 (v := .agg [.bool (exc (whl L.1) p 0), .bool (exc p (whl L.2.1) 0), .bool (exc q p L.2.2.1), .bool (exc p q L.2.2.2.1)]) hX.h69 rfl rfl rfl (by decide) (fun tm hl h0 h1 h2 => ?_) rfl σ
  simp only [AVal.strip, stripL, Rd.enc, Lim.cells] at h0 h1 h2
  replace hl : tm.length = 30 := hl
  simp only [Rd.enc] at c0 c1 c2 c3 c4 c5
  unfold Gives
  simp [xf69, hl, h0, h1, h2, c0, c1, c2, c3, c4, c5, Store.empty, Store.new, Store.put, Store.get, look, putL, setR, Store.only, Store.merge, touch, wrote, upTo, isIn, okRec, hits, capsOf, xcaps, stripL, AVal.strip, freeL, AVal.free, fillR, chunks, mkV, List.filter]
end
end Go.Proofs.Ytbgjmclpahganaa.Eng

/-
  VIOLATIONS, B: the first violation at a tick.
-/
namespace Go.Proofs.Ytbgjmclpahganaa.Eng
set_option linter.unusedSimpArgs false
set_option linter.unusedVariables false

def lv (a b : List Kn) (k : Kn) : AVal := .agg [.int .i64 (mx a k.1).1, .int .i64 (mx a k.1).2.1, .int .i64 (mx a k.1).2.2, .int .i64 (mx b k.2).1, .int .i64 (mx b k.2).2.1, .int .i64 (mx b k.2).2.2]
def lvs (a b : List Kn) (l : List Kn) : List AVal := l.map (lv a b)
theorem lvs_free (a b : List Kn) (l : List Kn) : freeL (lvs a b l) = true := by rw [freeL_all]; intro x hx; obtain ⟨s, _, rfl⟩ := List.mem_map.1 hx; rfl
theorem lvs_strip (a b : List Kn) (l : List Kn) : stripL (lvs a b l) = lvs a b l := freeL_strip (lvs_free a b l)
@[simp] theorem lvs_len (a b : List Kn) (l : List Kn) : (lvs a b l).length = l.length := by simp [lvs]
theorem lvs_ones (a b : List Kn) (l : List Kn) : ones (lvs a b l) = true := by simp [ones, lvs, lv, AVal.one]
theorem lvs_get {a b : List Kn} {l : List Kn} {i : Nat} (h : i < l.length) : (lvs a b l)[i]? = some (lv a b (kat l i)) := by
  unfold lvs kat
  rw [List.getElem?_map, List.getD_eq_getElem?_getD, List.getElem?_eq_getElem h]; rfl
/-- The tick before. -/
def wb (t : Nat) (w : Int) : Nat := t - w.toNat
/-- The first violation: lake and kind. -/
def vF (a b : List Kn) (L M : Lim) (l : List Kn) (t : Nat) : Option (Nat × Nat) :=
  match fe (vb a L (kat l t).1 (kat l (wb t L.2.2.2.2)).1) 4 0 with
  | some k => some (0, k)
  | none => match fe (vb b M (kat l t).2 (kat l (wb t M.2.2.2.2)).2) 4 0 with
    | some k => some (1, k)
    | none => none
def exR : Option Nat → XExit
  | none => .normal
  | some _ => .ret
def vV (t : Nat) : Option (Nat × Nat) → AVal
  | some (lake, kind) => .agg [.int .i64 t, .int .i64 lake, .int .i64 kind]
  | none => .agg [.int .i64 0, .int .i64 0, .int .i64 0]
section
variable {X : FuncId → Option XFunc} (hX : VVioCode X)
include hX
theorem z86 {a b : List Kn} {u v : AVal} (p : PV a b u v) (ta : Tab a) (tb : Tab b) (r : Int) {s : Kn} (v1 : isVol a s.1 = true) (v2 : isVol b s.2 = true) (σ : Store) :
    Run X (.call 50) [.agg [u, v, .int .i64 r], .agg [.int .i64 s.1, .int .i64 s.2]] σ = some (.ret, [lv a b s], σ) := by
  have ha := p.ka; have hb := p.kb
  have t1 := t68 hX.runs.run.pair.tab ha ta v1; have t2 := t68 hX.runs.run.pair.tab hb tb v2
  have e1 : ∀ l x, AVal.agg [.int .i64 (levR l x).1, .int .i64 (sNum x (kat l (vix l x - 1)).2 (kat l (vix l x - 1)).1 (kat l (vix l x)).1 % ((kat l (vix l x)).2 - (kat l (vix l x - 1)).2)), .int .i64 ((kat l (vix l x)).2 - (kat l (vix l x - 1)).2)] = .agg [.int .i64 (mx l x).1, .int .i64 (mx l x).2.1, .int .i64 (mx l x).2.2] := fun l x => rfl
  rw [e1] at t1 t2
  refine call2 (v := lv a b s) hX.h50 (by simp [AVal.strip, stripL, AVal.free, freeL, ha.strip, ha.free, hb.strip, hb.free]) rfl (by decide) (fun tm hl h0 h1 => ?_) rfl σ
  simp only [AVal.strip, stripL, ha.strip, hb.strip] at h0 h1
  replace hl : tm.length = 23 := hl
  have w0 : IntKind.i64.wrap (0 + 1) = 1 := rfl
  have w1 : IntKind.i64.wrap (1 + 1) = 2 := rfl
  have w0' : IntKind.i64.wrap 1 = 1 := rfl
  have w1' : IntKind.i64.wrap 2 = 2 := rfl
  unfold Gives
  simp [xf50, xf50l0, Run_loop, hl, h0, h1, t1, t2, lv, w0, w1, w0', w1', idx, ha.one, ha.strip, ha.free, hb.one, hb.strip, hb.free, Store.empty, Store.new, Store.put, Store.get, look, putL, setR, Store.only, Store.merge, touch, wrote, upTo, isIn, okRec, hits, capsOf, xcaps, stripL, AVal.strip, freeL, AVal.free, fillR, chunks, mkV, List.filter]
omit hX in
theorem inner87 {f : Nat → Bool} {lim past : AVal} {t i : Nat} {σ : Store} (g : σ.get 1 = some (.cells [.int .i64 0, .int .i64 0, .int .i64 0])) (tm : List AVal) (hl : tm.length = 54) (h1 : XOpd.eval tm (.t 1) = past) (h2 : XOpd.eval tm (.t 2) = .ptr 0 0) (h4 : XOpd.eval tm (.t 4) = .ptr 1 0) (h6 : XOpd.eval tm (.t 6) = .int .i64 t) (h7 : XOpd.eval tm (.t 7) = .int .i64 i) (h17 : XOpd.eval tm (.t 17) = lim) (h18 : XOpd.eval tm (.t 18) = .int .i64 i) (h41 : XOpd.eval tm (.t 41) = .agg [.bool (f 0), .bool (f 1), .bool (f 2), .bool (f 3)]) (h42 : XOpd.eval tm (.t 42) = .int .i64 0) :
    Ends (Run X (.code (.loop xf51l0)) tm σ) (exO 2 (fe f 4 0)) fun tm' σ' => tm'.length = 54 ∧ XOpd.eval tm' (.t 4) = .ptr 1 0 ∧ (fe f 4 0 = none → σ' = σ ∧ XOpd.eval tm' (.t 1) = past ∧ XOpd.eval tm' (.t 2) = .ptr 0 0 ∧ XOpd.eval tm' (.t 6) = .int .i64 t ∧ XOpd.eval tm' (.t 17) = lim ∧ XOpd.eval tm' (.t 18) = .int .i64 i) ∧
      ∀ k, fe f 4 0 = some k → XOpd.eval tm' (.t 5) = .bool true ∧ σ'.get 1 = some (.cells [.int .i64 t, .int .i64 i, .int .i64 k]) := by
  have w0 : IntKind.i64.wrap (0 + 1) = 1 := rfl
  have w1 : IntKind.i64.wrap (1 + 1) = 2 := rfl
  have w2 : IntKind.i64.wrap (2 + 1) = 3 := rfl
  have w3 : IntKind.i64.wrap (3 + 1) = 4 := rfl
  have w0' : IntKind.i64.wrap 1 = 1 := rfl
  have w1' : IntKind.i64.wrap 2 = 2 := rfl
  have w2' : IntKind.i64.wrap 3 = 3 := rfl
  have w3' : IntKind.i64.wrap 4 = 4 := rfl
  cases c0 : f 0
  · cases c1 : f 1
    · cases c2 : f 2
      · cases c3 : f 3
        · have hf : fe f 4 0 = none := by simp [fe, c0, c1, c2, c3]
          rw [hf]
          simp [xf51l0, Run_loop, exO, hl, h1, h2, h4, h6, h7, h17, h18, h41, h42, c0, c1, c2, c3, g, w0, w1, w2, w3, w0', w1', w2', w3', idx, put_next, new_next, Store.get_new, Store.get_put, put_get, setR, only_get, merge_get', only_next, merge_next, upTo_self, upTo_one, merge_only, touch, wrote, isIn, okRec, hits, capsOf, xcaps, stripL, AVal.strip, freeL, AVal.free, fillR, chunks, mkV]
        · have hf : fe f 4 0 = some 3 := by simp [fe, c0, c1, c2, c3]
          rw [hf]
          simp [xf51l0, Run_loop, exO, hl, h1, h2, h4, h6, h7, h17, h18, h41, h42, c0, c1, c2, c3, g, w0, w1, w2, w3, w0', w1', w2', w3', idx, put_next, new_next, Store.get_new, Store.get_put, put_get, setR, only_get, merge_get', only_next, merge_next, upTo_self, upTo_one, merge_only, touch, wrote, isIn, okRec, hits, capsOf, xcaps, stripL, AVal.strip, freeL, AVal.free, fillR, chunks, mkV]
      · have hf : fe f 4 0 = some 2 := by simp [fe, c0, c1, c2]
        rw [hf]
        simp [xf51l0, Run_loop, exO, hl, h1, h2, h4, h6, h7, h17, h18, h41, h42, c0, c1, c2, g, w0, w1, w2, w3, w0', w1', w2', w3', idx, put_next, new_next, Store.get_new, Store.get_put, put_get, setR, only_get, merge_get', only_next, merge_next, upTo_self, upTo_one, merge_only, touch, wrote, isIn, okRec, hits, capsOf, xcaps, stripL, AVal.strip, freeL, AVal.free, fillR, chunks, mkV]
    · have hf : fe f 4 0 = some 1 := by simp [fe, c0, c1]
      rw [hf]
      simp [xf51l0, Run_loop, exO, hl, h1, h2, h4, h6, h7, h17, h18, h41, h42, c0, c1, g, w0, w1, w2, w3, w0', w1', w2', w3', idx, put_next, new_next, Store.get_new, Store.get_put, put_get, setR, only_get, merge_get', only_next, merge_next, upTo_self, upTo_one, merge_only, touch, wrote, isIn, okRec, hits, capsOf, xcaps, stripL, AVal.strip, freeL, AVal.free, fillR, chunks, mkV]
  · have hf : fe f 4 0 = some 0 := by simp [fe, c0]
    rw [hf]
    simp [xf51l0, Run_loop, exO, hl, h1, h2, h4, h6, h7, h17, h18, h41, h42, c0, g, w0, w1, w2, w3, w0', w1', w2', w3', idx, put_next, new_next, Store.get_new, Store.get_put, put_get, setR, only_get, merge_get', only_next, merge_next, upTo_self, upTo_one, merge_only, touch, wrote, isIn, okRec, hits, capsOf, xcaps, stripL, AVal.strip, freeL, AVal.free, fillR, chunks, mkV]
omit hX
def I87 (u v : AVal) (r s1 s2 : Int) (L M : Lim) (past : AVal) (t i : Nat) (tm : List AVal) (σ : Store) : Prop :=
  tm.length = 54 ∧ XOpd.eval tm (.t 1) = past ∧ XOpd.eval tm (.t 2) = .ptr 0 0 ∧ XOpd.eval tm (.t 4) = .ptr 1 0 ∧ XOpd.eval tm (.t 6) = .int .i64 t ∧ XOpd.eval tm (.t 17) = .agg (L.cells ++ M.cells) ∧ XOpd.eval tm (.t 18) = .int .i64 i ∧
  σ.get 0 = some (.cells ([u, v, .int .i64 r, .int .i64 s1, .int .i64 s2] ++ (L.cells ++ M.cells))) ∧ σ.get 1 = some (.cells [.int .i64 0, .int .i64 0, .int .i64 0]) ∧ 2 ≤ σ.next
include hX
set_option maxHeartbeats 1000000 in
theorem round87 {a b : List Kn} {u v : AVal} (ta : Tab a) (tb : Tab b) {r s1 s2 : Int} {L M : Lim} (oL : LimOk a L) (oM : LimOk b M) {xs : List Kn} (hv : ∀ i, i < xs.length → isVol a (kat xs i).1 = true ∧ isVol b (kat xs i).2 = true) {t : Nat} (ht : t + 1 = xs.length) (hn : xs.length ≤ 1000000) {i : Nat} (hi : i < 2) {tm : List AVal} {σ : Store} (h : I87 u v r s1 s2 L M (.list 6 (lvs a b xs) none) t i tm σ) {o : Option Nat}
    (ho : o = if i = 0 then fe (vb a L (kat xs t).1 (kat xs (wb t L.2.2.2.2)).1) 4 0 else fe (vb b M (kat xs t).2 (kat xs (wb t M.2.2.2.2)).2) 4 0) :
    Ends (Run X (.code xf51l1) tm σ) (exR o) fun tm' σ' => (o = none → I87 u v r s1 s2 L M (.list 6 (lvs a b xs) none) t (i + 1) tm' σ') ∧ ∀ k, o = some k → tm'.length = 54 ∧ XOpd.eval tm' (.t 4) = .ptr 1 0 ∧ XOpd.eval tm' (.t 5) = .bool true ∧ σ'.get 1 = some (.cells [.int .i64 t, .int .i64 i, .int .i64 k]) := by
  obtain ⟨hl, h1, h2, h4, h6, h17, h18, g0, g1, nx⟩ := h
  obtain ⟨N, hN⟩ : ∃ N, σ.next = N + 2 := ⟨σ.next - 2, by omega⟩
  have hw : IntKind.i64.wrap ((i : Int) + 1) = ((i + 1 : Nat) : Int) := by rw [wrap_i64] <;> omega
  have q1 := lvs_get (a := a) (b := b) (l := xs) (i := t) (by omega)
  have hc : i = 0 ∨ i = 1 := by omega
  rcases hc with rfl | rfl
  · have kw : wb t L.2.2.2.2 < xs.length := by unfold wb; omega
    have q2 := lvs_get (a := a) (b := b) (l := xs) (i := wb t L.2.2.2.2) kw
    have e1 : IntKind.i64.wrap ((t : Int) - L.2.2.2.2) = (t : Int) - L.2.2.2.2 := by have := oL.w0; have := oL.w1; rw [wrap_i64] <;> omega
    have e2 : (if L.2.2.2.2 < (t : Int) then (t : Int) - L.2.2.2.2 else 0) = ((wb t L.2.2.2.2 : Nat) : Int) := by have := oL.w0; unfold wb; split <;> omega
    have z120 := z120 hX ta oL (hv t (by omega)).1 (hv _ kw).1
    have hI := fun (σ : Store) g tm y1 y2 y3 y4 y5 y6 y7 y8 y9 y10 => out_of (inner87 (X := X) (f := vb a L (kat xs t).1 (kat xs (wb t L.2.2.2.2)).1) (lim := .agg (L.cells ++ M.cells)) (past := .list 6 (lvs a b xs) none) (t := t) (i := 0) (σ := σ) g tm y1 y2 y3 y4 y5 y6 y7 y8 y9 y10)
    rw [if_pos rfl] at ho
    rw [← ho] at hI
    simp only [Rd.enc, Lim.cells, List.cons_append, List.nil_append, lv] at z120 h17 g0 q1 q2 hI
    cases o with
    | none =>
      simp only [exO, true_implies, reduceCtorEq, false_implies, implies_true, and_true, exR] at hI ⊢
      simp (maxDischargeDepth := 24) [xf51l1, I87, hl, h1, h2, h4, h6, h17, h18, g0, g1, hN, q1, q2, e1, e2, z120, hI, hw, Lim.cells, lv, put_next, new_next, Store.get_new, Store.get_put, put_get, setR, only_get, merge_get', only_next, merge_next, upTo_self, upTo_one, merge_only, touch, wrote, isIn, okRec, hits, capsOf, xcaps, stripL, AVal.strip, freeL, AVal.free, fillR, chunks, mkV]
    | some k =>
      have hI := fun (σ : Store) g tm y1 y2 y3 y4 y5 y6 y7 y8 y9 y10 => And.intro (hI σ g tm y1 y2 y3 y4 y5 y6 y7 y8 y9 y10).1 (And.intro (hI σ g tm y1 y2 y3 y4 y5 y6 y7 y8 y9 y10).2.1 (And.intro (hI σ g tm y1 y2 y3 y4 y5 y6 y7 y8 y9 y10).2.2.1 ((hI σ g tm y1 y2 y3 y4 y5 y6 y7 y8 y9 y10).2.2.2.2 k rfl)))
      simp only [exO, exR] at hI ⊢
      simp (maxDischargeDepth := 24) [xf51l1, I87, hl, h1, h2, h4, h6, h17, h18, g0, g1, hN, q1, q2, e1, e2, z120, hI, hw, Lim.cells, lv, put_next, new_next, Store.get_new, Store.get_put, put_get, setR, only_get, merge_get', only_next, merge_next, upTo_self, upTo_one, merge_only, touch, wrote, isIn, okRec, hits, capsOf, xcaps, stripL, AVal.strip, freeL, AVal.free, fillR, chunks, mkV]
  · have kw : wb t M.2.2.2.2 < xs.length := by unfold wb; omega
    have q2 := lvs_get (a := a) (b := b) (l := xs) (i := wb t M.2.2.2.2) kw
    have e1 : IntKind.i64.wrap ((t : Int) - M.2.2.2.2) = (t : Int) - M.2.2.2.2 := by have := oM.w0; have := oM.w1; rw [wrap_i64] <;> omega
    have e2 : (if M.2.2.2.2 < (t : Int) then (t : Int) - M.2.2.2.2 else 0) = ((wb t M.2.2.2.2 : Nat) : Int) := by have := oM.w0; unfold wb; split <;> omega
    have z120 := z120 hX tb oM (hv t (by omega)).2 (hv _ kw).2
    have hI := fun (σ : Store) g tm y1 y2 y3 y4 y5 y6 y7 y8 y9 y10 => out_of (inner87 (X := X) (f := vb b M (kat xs t).2 (kat xs (wb t M.2.2.2.2)).2) (lim := .agg (L.cells ++ M.cells)) (past := .list 6 (lvs a b xs) none) (t := t) (i := 1) (σ := σ) g tm y1 y2 y3 y4 y5 y6 y7 y8 y9 y10)
    rw [if_neg (by decide)] at ho
    rw [← ho] at hI
    simp only [Rd.enc, Lim.cells, List.cons_append, List.nil_append, lv] at z120 h17 g0 q1 q2 hI
    cases o with
    | none =>
      simp only [exO, true_implies, reduceCtorEq, false_implies, implies_true, and_true, exR] at hI ⊢
      simp (maxDischargeDepth := 24) [xf51l1, I87, hl, h1, h2, h4, h6, h17, h18, g0, g1, hN, q1, q2, e1, e2, z120, hI, hw, Lim.cells, lv, put_next, new_next, Store.get_new, Store.get_put, put_get, setR, only_get, merge_get', only_next, merge_next, upTo_self, upTo_one, merge_only, touch, wrote, isIn, okRec, hits, capsOf, xcaps, stripL, AVal.strip, freeL, AVal.free, fillR, chunks, mkV]
    | some k =>
      have hI := fun (σ : Store) g tm y1 y2 y3 y4 y5 y6 y7 y8 y9 y10 => And.intro (hI σ g tm y1 y2 y3 y4 y5 y6 y7 y8 y9 y10).1 (And.intro (hI σ g tm y1 y2 y3 y4 y5 y6 y7 y8 y9 y10).2.1 (And.intro (hI σ g tm y1 y2 y3 y4 y5 y6 y7 y8 y9 y10).2.2.1 ((hI σ g tm y1 y2 y3 y4 y5 y6 y7 y8 y9 y10).2.2.2.2 k rfl)))
      simp only [exO, exR] at hI ⊢
      simp (maxDischargeDepth := 24) [xf51l1, I87, hl, h1, h2, h4, h6, h17, h18, g0, g1, hN, q1, q2, e1, e2, z120, hI, hw, Lim.cells, lv, put_next, new_next, Store.get_new, Store.get_put, put_get, setR, only_get, merge_get', only_next, merge_next, upTo_self, upTo_one, merge_only, touch, wrote, isIn, okRec, hits, capsOf, xcaps, stripL, AVal.strip, freeL, AVal.free, fillR, chunks, mkV]
/-- What is violated at a tick: result and whether there is something. -/
def vR (t : Nat) (o : Option (Nat × Nat)) : AVal := .tup [vV t o, .bool o.isSome]
omit hX in
theorem vV_free (t : Nat) (o : Option (Nat × Nat)) : (vV t o).strip = vV t o ∧ (vV t o).free = true := by cases o <;> exact ⟨rfl, rfl⟩
theorem z87 {a b : List Kn} {u v : AVal} (p : PV a b u v) (ta : Tab a) (tb : Tab b) {r s1 s2 : Int} {L M : Lim} (oL : LimOk a L) (oM : LimOk b M) {xs : List Kn} (hv : ∀ i, i < xs.length → isVol a (kat xs i).1 = true ∧ isVol b (kat xs i).2 = true) {t : Nat} (ht : t + 1 = xs.length) (hn : xs.length ≤ 1000000) {w : AVal} (hw : w.strip = .list 6 (lvs a b xs) none) (σ : Store) :
    Run X (.call 51) [.agg ([u, v, .int .i64 r, .int .i64 s1, .int .i64 s2] ++ (L.cells ++ M.cells)), w] σ = some (.ret, [vR t (vF a b L M xs t)], σ) := by
  have ha := p.ka; have hb := p.kb
  have := call2 (X := X) (a := .agg ([u, v, .int .i64 r, .int .i64 s1, .int .i64 s2] ++ (L.cells ++ M.cells))) (b := w) (v := vR t (vF a b L M xs t)) hX.h51 (by simp [AVal.strip, stripL, AVal.free, freeL, ha.strip, ha.free, hb.strip, hb.free, Lim.cells]) (by rw [hw]; simp [AVal.free, lvs_free]) (by decide) (fun tm hl a0 a1 => ?_) (by simp [vR, AVal.strip, stripL, AVal.free, freeL, (vV_free _ _).1, (vV_free _ _).2]) σ
  · simpa [vR, AVal.strip, stripL, (vV_free _ _).1] using this
  rw [hw] at a1
  replace hl : tm.length = 54 := hl
  have e0 : xf51.body = .seq xf51.body.fst (.seq xf51.body.snd.fst (.seq (.seq xf51.body.snd.snd.fst.fst (.block 0 (.loop xf51l1))) xf51.body.snd.snd.snd)) := rfl
  have ew : IntKind.i64.wrap ((xs.length : Int) - 1) = (t : Int) := by rw [wrap_i64] <;> omega
  unfold Gives
  rw [e0, seq_left, seq_left, Run_seq, seq_left, Run_seq]
  have eP : Ends (Run X (.code (.seq (.seq xf51.body.fst xf51.body.snd.fst) xf51.body.snd.snd.fst.fst)) tm Store.empty) .normal fun tm σ => I87 u v r s1 s2 L M (.list 6 (lvs a b xs) none) t 0 tm σ := by
    simp only [AVal.strip, stripL, ha.strip, hb.strip, Lim.cells, List.cons_append, List.nil_append] at a0
    simp [I87, xf51, XCode.fst, XCode.snd, hl, a0, a1, ew, Lim.cells, ha.one, ha.strip, ha.free, hb.one, hb.strip, hb.free, Store.empty, Store.new, Store.put, Store.get, look, putL, setR, Store.only, Store.merge, touch, wrote, upTo, isIn, okRec, hits, capsOf, xcaps, stripL, AVal.strip, freeL, AVal.free, fillR, chunks, mkV, List.filter]
  obtain ⟨o1, o2⟩ := out_of eP
  rw [o1, thenC_normal, Run_block]
  generalize outT X _ tm Store.empty = tm1 at *
  generalize outS X _ tm Store.empty = σ1 at *
  unfold vF
  cases h0 : fe (vb a L (kat xs t).1 (kat xs (wb t L.2.2.2.2)).1) 4 0 with
  | some k =>
    have r0 := round87 hX (u := u) (v := v) ta tb (r := r) (s1 := s1) (s2 := s2) oL oM hv ht hn (i := 0) (by omega) o2 (o := some k) (by rw [if_pos rfl]; exact h0.symm)
    simp only [exR] at r0
    obtain ⟨q1, q2, q3⟩ := out_of r0
    obtain ⟨x1, x2, x3, x4⟩ := q3 k rfl
    rw [Run_loop, q1]
    simp [xf51, XCode.fst, XCode.snd, x1, x2, x3, x4, vR, vV, xresult, xrets]
  | none =>
    have r0 := round87 hX (u := u) (v := v) ta tb (r := r) (s1 := s1) (s2 := s2) oL oM hv ht hn (i := 0) (by omega) o2 (o := none) (by rw [if_pos rfl]; exact h0.symm)
    simp only [exR] at r0
    obtain ⟨q1, q2, q3⟩ := out_of r0
    have q2 := q2 trivial
    rw [Run_loop, q1, thenC_normal]
    generalize outT X _ tm1 σ1 = tm2 at *
    generalize outS X _ tm1 σ1 = σ2 at *
    cases h1 : fe (vb b M (kat xs t).2 (kat xs (wb t M.2.2.2.2)).2) 4 0 with
    | some k =>
      have r1 := round87 hX (u := u) (v := v) ta tb (r := r) (s1 := s1) (s2 := s2) oL oM hv ht hn (i := 1) (by omega) q2 (o := some k) (by rw [if_neg (by decide)]; exact h1.symm)
      simp only [exR] at r1
      obtain ⟨q1, q2, q3⟩ := out_of r1
      obtain ⟨x1, x2, x3, x4⟩ := q3 k rfl
      rw [Run_loop, q1]
      simp [xf51, XCode.fst, XCode.snd, x1, x2, x3, x4, vR, vV, xresult, xrets]
    | none =>
      have r1 := round87 hX (u := u) (v := v) ta tb (r := r) (s1 := s1) (s2 := s2) oL oM hv ht hn (i := 1) (by omega) q2 (o := none) (by rw [if_neg (by decide)]; exact h1.symm)
      simp only [exR] at r1
      obtain ⟨q1, q2, q3⟩ := out_of r1
      obtain ⟨hl, h1, h2, h4, h6, h17, h18, g0, g1, nx⟩ := q2 trivial
      rw [Run_loop, q1, thenC_normal]
      generalize outT X _ tm2 σ2 = tm3 at *
      generalize outS X _ tm2 σ2 = σ3 at *
      rw [Run_loop]
      simp [xf51l1, xf51, XCode.fst, XCode.snd, hl, h4, h18, g1, vR, vV, xresult, xrets, put_next, new_next, Store.get_new, Store.get_put, put_get, setR, only_get, merge_get', only_next, merge_next, upTo_self, upTo_one, merge_only, touch, wrote, isIn, okRec, hits, capsOf, xcaps, stripL, AVal.strip, freeL, AVal.free, fillR, chunks, mkV]
end
end Go.Proofs.Ytbgjmclpahganaa.Eng

/-
  VIOLATIONS, C: the end of a run.
-/
namespace Go.Proofs.Ytbgjmclpahganaa.Eng
set_option linter.unusedSimpArgs false
set_option linter.unusedVariables false

/-- The first violation at a tick of states. -/
def vG (a b : List Kn) (L M : Lim) (st : Nat → Kn) (t : Nat) : Option (Nat × Nat) :=
  match fe (vb a L (st t).1 (st (wb t L.2.2.2.2)).1) 4 0 with
  | some k => some (0, k)
  | none => match fe (vb b M (st t).2 (st (wb t M.2.2.2.2)).2) 4 0 with
    | some k => some (1, k)
    | none => none
theorem wb_le (t : Nat) (w : Int) : wb t w ≤ t := by unfold wb; omega
theorem vG_congr {a b : List Kn} {L M : Lim} {st st' : Nat → Kn} {t : Nat} (h : ∀ j, j ≤ t → st j = st' j) : vG a b L M st t = vG a b L M st' t := by
  unfold vG
  rw [h t (Nat.le_refl _), h _ (wb_le t _), h _ (wb_le t _)]
theorem vF_vG (a b : List Kn) (L M : Lim) (l : List Kn) (t : Nat) : vF a b L M l t = vG a b L M (kat l) t := rfl
/-- The states from the tick 0 on. -/
def pst (st : Nat → Kn) (n : Nat) : List Kn := (List.range (n + 1)).map st
@[simp] theorem pst_len (st : Nat → Kn) (n : Nat) : (pst st n).length = n + 1 := by simp [pst]
theorem pst_kat {st : Nat → Kn} {n j : Nat} (h : j ≤ n) : kat (pst st n) j = st j := by
  unfold kat pst
  rw [List.getD_eq_getElem?_getD, List.getElem?_map, List.getElem?_range (by omega)]; rfl
theorem pst_succ (st : Nat → Kn) (n : Nat) : pst st (n + 1) = pst st n ++ [st (n + 1)] := by
  unfold pst; rw [List.range_succ, List.map_append]; rfl
theorem vF_pst {a b : List Kn} {L M : Lim} {st : Nat → Kn} {n t : Nat} (h : t ≤ n) : vF a b L M (pst st n) t = vG a b L M st t := by
  rw [vF_vG]; exact vG_congr fun j hj => pst_kat (by omega)
def zero3 : AVal := .agg [.int .i64 0, .int .i64 0, .int .i64 0]
/-- How a run ends. -/
def endR (a b : List Kn) (r : Int) (s : Kn) (l : List Rd) (L M : Lim) : Nat → Nat → Nat × AVal × Int
  | 0, i => (i, zero3, 12)
  | k + 1, i => if seA a b r (stN a b r s l i) (rat l i) ≠ 0 then (i, zero3, 22) else
    match vG a b L M (stN a b r s l) (i + 1) with
    | some q => (i, vV (i + 1) (some q), 0)
    | none => endR a b r s l L M k (i + 1)
theorem endR_skip {a b : List Kn} {r : Int} {s : Kn} {l : List Rd} {L M : Lim} : ∀ (d k i : Nat), (∀ j, i ≤ j → j < i + d → seA a b r (stN a b r s l j) (rat l j) = 0 ∧ vG a b L M (stN a b r s l) (j + 1) = none) → endR a b r s l L M (d + k) i = endR a b r s l L M k (i + d)
  | 0, k, i, h => by simp
  | d + 1, k, i, h => by
    obtain ⟨h1, h2⟩ := h i (by omega) (by omega)
    have ih := endR_skip (a := a) (b := b) (r := r) (s := s) (l := l) (L := L) (M := M) d k (i + 1) (fun j j1 j2 => h j (by omega) (by omega))
    rw [show d + 1 + k = (d + k) + 1 by omega]
    simp only [endR, h1, h2, ne_eq, not_true_eq_false, if_false]
    rw [ih, show i + 1 + d = i + (d + 1) by omega]
def J52 (a b : List Kn) (u v : AVal) (r : Int) (s : Kn) (l : List Rd) (L M : Lim) (tmR : List AVal) (i : Nat) (σ : Store) : Prop :=
  7 ≤ σ.next ∧ (∀ j, j < i → seA a b r (stN a b r s l j) (rat l j) = 0 ∧ vG a b L M (stN a b r s l) (j + 1) = none) ∧
  σ.get 0 = some (.cells ([u, v, .int .i64 r, .int .i64 s.1, .int .i64 s.2] ++ (L.cells ++ M.cells))) ∧ σ.get 1 = some (.cells [.int .i64 0]) ∧ σ.get 2 = some (.cells [.int .i64 0, .int .i64 0, .int .i64 0]) ∧ σ.get 3 = some (.cells [.int .i64 0]) ∧
  σ.get 4 = some (.tok 123 6 (i + 1)) ∧ σ.get 5 = some (.cells [.list 6 (lvs a b (pst (stN a b r s l) i)) (some 4)]) ∧ σ.get 6 = some (.oth (.loop .ready tmR [25, 26] xf28a0 xf28b0))
def E52 (a b : List Kn) (r : Int) (s : Kn) (l : List Rd) (L M : Lim) (tmR : List AVal) (n : Nat) (σ : Store) : Prop :=
  (∀ j, j < n → seA a b r (stN a b r s l j) (rat l j) = 0 ∧ vG a b L M (stN a b r s l) (j + 1) = none) ∧
  (∃ v e cs, ((seA a b r (stN a b r s l n) (rat l n) ≠ 0 ∧ v = zero3 ∧ e = 22) ∨ (seA a b r (stN a b r s l n) (rat l n) = 0 ∧ ∃ q, vG a b L M (stN a b r s l) (n + 1) = some q ∧ v = vV (n + 1) (some q) ∧ e = 0)) ∧
    v = .agg cs ∧ cs.length = 3 ∧ cs.all AVal.one = true ∧ σ.get 1 = some (.cells [.int .i64 n]) ∧ σ.get 2 = some (.cells cs) ∧ σ.get 3 = some (.cells [.int .i64 e])) ∧ σ.get 6 = some (.oth (.loop (.done .ret) tmR [25, 26] xf28a0 xf28b0))
def Fr52 (tm : List AVal) : Prop := tm.length = 56 ∧ XOpd.eval tm (.t 2) = .ptr 0 0 ∧ XOpd.eval tm (.t 4) = .ptr 1 0 ∧ XOpd.eval tm (.t 5) = .ptr 2 0 ∧ XOpd.eval tm (.t 6) = .ptr 3 0 ∧ XOpd.eval tm (.t 7) = .ptr 5 0
theorem J52.far {a b : List Kn} {u v : AVal} {r : Int} {s : Kn} {l : List Rd} {L M : Lim} {tmR : List AVal} {i : Nat} {σ τ : Store} (h : J52 a b u v r s l L M tmR i σ) (hg : ∀ k, k ≠ 7 → k < σ.next → τ.get k = σ.get k) (hn : σ.next ≤ τ.next) : J52 a b u v r s l L M tmR i τ := by
  obtain ⟨nx, ok, g0, g1, g2, g3, g4, g5, g6⟩ := h
  exact ⟨by omega, ok, by rw [hg 0 (by omega) (by omega)]; exact g0, by rw [hg 1 (by omega) (by omega)]; exact g1, by rw [hg 2 (by omega) (by omega)]; exact g2, by rw [hg 3 (by omega) (by omega)]; exact g3, by rw [hg 4 (by omega) (by omega)]; exact g4, by rw [hg 5 (by omega) (by omega)]; exact g5, by rw [hg 6 (by omega) (by omega)]; exact g6⟩
section
variable {X : FuncId → Option XFunc} (hX : VVioCode X)
include hX
set_option maxHeartbeats 4000000 in
theorem rnd52 {a b : List Kn} {u v : AVal} (p : PV a b u v) (ta : Tab a) (tb : Tab b) {r : Int} {s : Kn} (v1 : isVol a s.1 = true) (v2 : isVol b s.2 = true) {l : List Rd} {L M : Lim} (oL : LimOk a L) (oM : LimOk b M) {tmR : List AVal} (fr : Fr52 tmR) {i : Nat} (hi : i < l.length) (hl1 : l.length ≤ 100000) {σ : Store} (hJ : J52 a b u v r s l L M tmR i σ) (hq : 7 < σ.next - 1) (hy : ∃ cs, σ.get (σ.next - 1) = some (.cells cs)) :
    ∃ bo σ', Run X (.round 6) [.agg (stA a b r (stN a b r s l i) (rat l i)), .int .i64 (seA a b r (stN a b r s l i) (rat l i))] σ = some (.ret, [.bool bo], σ') ∧
      (bo = true → seA a b r (stN a b r s l i) (rat l i) = 0 → J52 a b u v r s l L M tmR (i + 1) σ' ∧ σ'.get 7 = σ.get 7 ∧ σ'.get (σ.next - 1) = σ.get (σ.next - 1) ∧ σ.next ≤ σ'.next) ∧ ((bo = false ∨ seA a b r (stN a b r s l i) (rat l i) ≠ 0) → E52 a b r s l L M tmR i σ') := by
  obtain ⟨hnx, ok, g0, g1, g2, g3, g4, g5, g6⟩ := hJ
  obtain ⟨hln, h2, h4, h5, h6, h7⟩ := fr
  obtain ⟨N, hN⟩ : ∃ N, σ.next = N + 9 := ⟨σ.next - 9, by omega⟩
  obtain ⟨cy, hy⟩ := hy
  rw [show σ.next - 1 = N + 8 by omega] at *
  have ha := p.ka; have hb := p.kb
  have hin : roundIn σ 6 [.agg (stA a b r (stN a b r s l i) (rat l i)), .int .i64 (seA a b r (stN a b r s l i) (rat l i))] = some (putT (putT tmR (some 25) (.agg (stA a b r (stN a b r s l i) (rat l i)))) (some 26) (.int .i64 (seA a b r (stN a b r s l i) (rat l i))), xf28a0, xf28b0) := by
    unfold roundIn
    rw [g6]; rfl
  have iw : IntKind.i64.wrap (((i + 1 : Nat) : Int) - 1) = (i : Int) := by rw [wrap_i64] <;> omega
  have iw' : IntKind.i64.wrap ((i : Int) + 1 - 1) = (i : Int) := by rw [wrap_i64] <;> omega
  have iw'' : IntKind.i64.wrap (i : Int) = (i : Int) := by rw [wrap_i64] <;> omega
  simp only [Lim.cells, List.cons_append, List.nil_append] at g0
  by_cases hz : seA a b r (stN a b r s l i) (rat l i) = 0
  · have hsa := stA_ok hz
    obtain ⟨w1, w2⟩ := stN_vol ta tb v1 v2 (i := i + 1) (l := l) (r := r) (fun j hj => by
      by_cases e : j = i
      · subst e; exact hz
      · exact (ok j (by omega)).1)
    have z86 := z86 hX p ta tb r w1 w2
    have hps := pst_succ (stN a b r s l) i
    have z87 := fun tok => z87 hX p ta tb (r := r) (s1 := s.1) (s2 := s.2) oL oM (xs := pst (stN a b r s l) (i + 1)) (fun j hj => by
      simp at hj
      rw [pst_kat (by omega)]
      exact stN_vol ta tb v1 v2 (i := j) (l := l) (r := r) (fun m hm => by
        by_cases e : m = i
        · subst e; exact hz
        · exact (ok m (by omega)).1)) (t := i + 1) (by simp) (by simp; omega) (w := .list 6 (lvs a b (pst (stN a b r s l) (i + 1))) tok) (by simp [AVal.strip, lvs_strip])
    rw [vF_pst (Nat.le_refl _)] at z87
    have hlv : lvs a b (pst (stN a b r s l) (i + 1)) = lvs a b (pst (stN a b r s l) i) ++ [lv a b (stN a b r s l (i + 1))] := by rw [hps]; simp [lvs]
    rw [hlv] at z87
    have hst : stN a b r s l (i + 1) = nx a b r (stN a b r s l i) (rat l i) := rfl
    rw [hz, hsa] at hin ⊢
    rw [hst] at z86
    have eA : Ends (Run X (.code xf28a0) (putT (putT tmR (some 25) (.agg [.int .i64 (nx a b r (stN a b r s l i) (rat l i)).1, .int .i64 (nx a b r (stN a b r s l i) (rat l i)).2, .int .i64 (evN a b r (stN a b r s l i)), .int .i64 (spN a b r (stN a b r s l i) (rat l i))])) (some 26) (.int .i64 0)) σ) .normal fun tm σ1 => tm.length = 56 ∧ XOpd.eval tm (.t 2) = .ptr 0 0 ∧ XOpd.eval tm (.t 4) = .ptr 1 0 ∧ XOpd.eval tm (.t 5) = .ptr 2 0 ∧ XOpd.eval tm (.t 6) = .ptr 3 0 ∧ XOpd.eval tm (.t 7) = .ptr 5 0 ∧ XOpd.eval tm (.t 8) = .ptr (N + 9) 0 ∧ XOpd.eval tm (.t 9) = .int .i64 0 ∧
        σ1 = (σ.new (.cells [.int .i64 0, .int .i64 0, .int .i64 0, .int .i64 0])).put (N + 9) (.cells [.int .i64 (nx a b r (stN a b r s l i) (rat l i)).1, .int .i64 (nx a b r (stN a b r s l i) (rat l i)).2, .int .i64 (evN a b r (stN a b r s l i)), .int .i64 (spN a b r (stN a b r s l i) (rat l i))]) := by
      simp [xf28a0, hln, h2, h4, h5, h6, h7, hN, put_next, new_next, Store.get_new, Store.get_put, put_get, setR, only_get, merge_get', only_next, merge_next, upTo_self, upTo_one, merge_only, touch, wrote, isIn, okRec, hits, capsOf, xcaps, stripL, AVal.strip, freeL, AVal.free, fillR, chunks, mkV]
    obtain ⟨o1, o2, o3, o4, o5, o6, o7, o8, o9, o10⟩ := out_of eA
    generalize outT X xf28a0 _ σ = tm1 at *
    generalize outS X xf28a0 _ σ = σ1 at *
    have hmid : roundMid σ1 6 = some (σ1.put 6 (.oth (.loop .busy tmR [25, 26] xf28a0 xf28b0))) := by
      unfold roundMid
      rw [o10, Store.get_put, Mem.put_ne _ (by omega), Store.get_new, Mem.put_ne _ (by omega), g6]
    have b1 : (i + 1 + 1) * 48 ≤ 1000000000000 := by omega
    have b2 : i + 1 + 1 ≤ 1000000000000 := by omega
    have b2' : i + 1 ≤ 999999999999 := by omega
    have b2'' : i ≤ 999999999998 := by omega
    cases hv : vG a b L M (stN a b r s l) (i + 1) with
    | none =>
      rw [hv] at z87
      simp only [vR, vV, Option.isSome, Lim.cells, List.cons_append, List.nil_append, lv, hst] at z87
      simp only [lv, hst] at hlv z86
      have eB : Ends (Run X (.code xf28b0) tm1 (σ1.put 6 (.oth (.loop .busy tmR [25, 26] xf28a0 xf28b0)))) .normal fun _ σ3 => N + 9 ≤ σ3.next ∧ σ3.get 0 = σ.get 0 ∧ σ3.get 1 = σ.get 1 ∧ σ3.get 2 = σ.get 2 ∧ σ3.get 3 = σ.get 3 ∧ σ3.get 4 = some (.tok 123 6 (i + 1 + 1)) ∧ σ3.get 5 = some (.cells [.list 6 (lvs a b (pst (stN a b r s l) (i + 1))) (some 4)]) ∧ σ3.get 6 = some (.oth (.loop .busy tmR [25, 26] xf28a0 xf28b0)) ∧ σ3.get 7 = σ.get 7 ∧ σ3.get (N + 8) = σ.get (N + 8) := by
        rw [o10, hlv]
        generalize (NObj.oth (.loop .busy tmR [25, 26] xf28a0 xf28b0)) = ob
        simp [xf28b0, o2, o3, o4, o5, o6, o7, o8, o9, g0, g1, g2, g3, g4, g5, hN, iw, iw', iw'', b1, b2, b2', b2'', z86, z87, xappend, ones, AVal.one, ha.one, ha.strip, ha.free, hb.one, hb.strip, hb.free, put_next, new_next, Store.get_new, Store.get_put, put_get, setR, only_get, merge_get', only_next, merge_next, upTo_self, upTo_one, merge_only, touch, wrote, isIn, okRec, hits, capsOf, xcaps, stripL, AVal.strip, freeL, AVal.free, fillR, chunks, mkV]
      obtain ⟨p1, p2, q0, q1, q2, q3, q4, q5, q6, q7, q8⟩ := out_of eB
      generalize outT X xf28b0 _ _ = tm3 at *
      generalize outS X xf28b0 _ _ = σ3 at *
      have hout : roundOut σ3 6 .normal = some (σ3.put 6 (.oth (.loop .ready tmR [25, 26] xf28a0 xf28b0))) := by
        unfold roundOut
        rw [q6]; rfl
      refine ⟨true, _, Run_round hin o1 hmid p1 hout, fun _ _ => ⟨⟨?_, ?_, ?_, ?_, ?_, ?_, ?_, ?_, ?_⟩, ?_, ?_, ?_⟩, fun h => absurd h (by simp)⟩
      · show 7 ≤ σ3.next; omega
      · intro j hj
        by_cases e : j = i
        · subst e; exact ⟨hz, hv⟩
        · exact ok j (by omega)
      · rw [Store.get_put, Mem.put_ne _ (by decide), q0]; simpa [Lim.cells] using g0
      · rw [Store.get_put, Mem.put_ne _ (by decide), q1]; exact g1
      · rw [Store.get_put, Mem.put_ne _ (by decide), q2]; exact g2
      · rw [Store.get_put, Mem.put_ne _ (by decide), q3]; exact g3
      · rw [Store.get_put, Mem.put_ne _ (by decide), q4]
      · rw [Store.get_put, Mem.put_ne _ (by decide), q5]
      · rw [Store.get_put, Mem.put_self]
      · rw [Store.get_put, Mem.put_ne _ (by decide)]; exact q7
      · rw [Store.get_put, Mem.put_ne _ (by omega)]; exact q8
      · show σ.next ≤ σ3.next; omega
    | some q =>
      obtain ⟨la, kd⟩ := q
      rw [hv] at z87
      simp only [vR, vV, Option.isSome, Lim.cells, List.cons_append, List.nil_append, lv, hst] at z87
      simp only [lv, hst] at hlv z86
      have eB : Ends (Run X (.code xf28b0) tm1 (σ1.put 6 (.oth (.loop .busy tmR [25, 26] xf28a0 xf28b0)))) .ret fun _ σ3 => σ3.get 1 = some (.cells [.int .i64 i]) ∧ σ3.get 2 = some (.cells [.int .i64 ((i + 1 : Nat) : Int), .int .i64 la, .int .i64 kd]) ∧ σ3.get 3 = some (.cells [.int .i64 0]) ∧ σ3.get 6 = some (.oth (.loop .busy tmR [25, 26] xf28a0 xf28b0)) := by
        rw [o10]
        generalize (NObj.oth (.loop .busy tmR [25, 26] xf28a0 xf28b0)) = ob
        simp [xf28b0, o2, o3, o4, o5, o6, o7, o8, o9, g0, g1, g2, g3, g4, g5, hN, iw, iw', iw'', b1, b2, b2', b2'', z86, z87, xappend, ones, AVal.one, ha.one, ha.strip, ha.free, hb.one, hb.strip, hb.free, put_next, new_next, Store.get_new, Store.get_put, put_get, setR, only_get, merge_get', only_next, merge_next, upTo_self, upTo_one, merge_only, touch, wrote, isIn, okRec, hits, capsOf, xcaps, stripL, AVal.strip, freeL, AVal.free, fillR, chunks, mkV]
      obtain ⟨p1, q1, q2, q3, q6⟩ := out_of eB
      generalize outT X xf28b0 _ _ = tm3 at *
      generalize outS X xf28b0 _ _ = σ3 at *
      have hout : roundOut σ3 6 .ret = some (σ3.put 6 (.oth (.loop (.done .ret) tmR [25, 26] xf28a0 xf28b0))) := by
        unfold roundOut
        rw [q6]; rfl
      refine ⟨false, _, Run_round hin o1 hmid p1 hout, (fun h => by cases h), fun _ => ⟨ok, ⟨vV (i + 1) (some (la, kd)), 0, _, .inr ⟨hz, (la, kd), hv, rfl, rfl⟩, rfl, rfl, rfl, ?_, ?_, ?_⟩, ?_⟩⟩
      · rw [Store.get_put, Mem.put_ne _ (by decide)]; exact q1
      · rw [Store.get_put, Mem.put_ne _ (by decide)]; exact q2
      · rw [Store.get_put, Mem.put_ne _ (by decide)]; exact q3
      · rw [Store.get_put, Mem.put_self]
  · have h22 := (seA_cases a b r (stN a b r s l i) (rat l i)).resolve_left hz
    have hsa := stA_no hz
    rw [hsa] at hin ⊢
    rw [h22] at hin
    have eA : Ends (Run X (.code xf28a0) (putT (putT tmR (some 25) (.agg [.int .i64 0, .int .i64 0, .int .i64 0, .int .i64 0])) (some 26) (.int .i64 22)) σ) .normal fun tm σ1 => tm.length = 56 ∧ XOpd.eval tm (.t 2) = .ptr 0 0 ∧ XOpd.eval tm (.t 4) = .ptr 1 0 ∧ XOpd.eval tm (.t 5) = .ptr 2 0 ∧ XOpd.eval tm (.t 6) = .ptr 3 0 ∧ XOpd.eval tm (.t 7) = .ptr 5 0 ∧ XOpd.eval tm (.t 8) = .ptr (N + 9) 0 ∧ XOpd.eval tm (.t 9) = .int .i64 22 ∧
        σ1 = (σ.new (.cells [.int .i64 0, .int .i64 0, .int .i64 0, .int .i64 0])).put (N + 9) (.cells [.int .i64 0, .int .i64 0, .int .i64 0, .int .i64 0]) := by
      simp [xf28a0, hln, h2, h4, h5, h6, h7, hN, put_next, new_next, Store.get_new, Store.get_put, put_get, setR, only_get, merge_get', only_next, merge_next, upTo_self, upTo_one, merge_only, touch, wrote, isIn, okRec, hits, capsOf, xcaps, stripL, AVal.strip, freeL, AVal.free, fillR, chunks, mkV]
    obtain ⟨o1, o2, o3, o4, o5, o6, o7, o8, o9, o10⟩ := out_of eA
    generalize outT X xf28a0 _ σ = tm1 at *
    generalize outS X xf28a0 _ σ = σ1 at *
    have hmid : roundMid σ1 6 = some (σ1.put 6 (.oth (.loop .busy tmR [25, 26] xf28a0 xf28b0))) := by
      unfold roundMid
      rw [o10, Store.get_put, Mem.put_ne _ (by omega), Store.get_new, Mem.put_ne _ (by omega), g6]
    have eB : Ends (Run X (.code xf28b0) tm1 (σ1.put 6 (.oth (.loop .busy tmR [25, 26] xf28a0 xf28b0)))) .ret fun _ σ3 => σ3.get 1 = some (.cells [.int .i64 i]) ∧ σ3.get 2 = some (.cells [.int .i64 0, .int .i64 0, .int .i64 0]) ∧ σ3.get 3 = some (.cells [.int .i64 22]) ∧ σ3.get 6 = some (.oth (.loop .busy tmR [25, 26] xf28a0 xf28b0)) := by
      rw [o10]
      generalize (NObj.oth (.loop .busy tmR [25, 26] xf28a0 xf28b0)) = ob
      simp [xf28b0, o2, o3, o4, o5, o6, o7, o8, o9, g0, g1, g2, g3, g4, g5, hN, iw, iw', iw'', ha.one, ha.strip, ha.free, hb.one, hb.strip, hb.free, put_next, new_next, Store.get_new, Store.get_put, put_get, setR, only_get, merge_get', only_next, merge_next, upTo_self, upTo_one, merge_only, touch, wrote, isIn, okRec, hits, capsOf, xcaps, stripL, AVal.strip, freeL, AVal.free, fillR, chunks, mkV]
    obtain ⟨p1, q1, q2, q3, q6⟩ := out_of eB
    generalize outT X xf28b0 _ _ = tm3 at *
    generalize outS X xf28b0 _ _ = σ3 at *
    have hout : roundOut σ3 6 .ret = some (σ3.put 6 (.oth (.loop (.done .ret) tmR [25, 26] xf28a0 xf28b0))) := by
      unfold roundOut
      rw [q6]; rfl
    rw [← h22] at hin
    refine ⟨false, _, Run_round hin (by rw [h22]; exact o1) hmid p1 hout, (fun h => by cases h), fun _ => ⟨ok, ⟨zero3, 22, _, .inl ⟨hz, rfl, rfl⟩, rfl, rfl, rfl, ?_, ?_, ?_⟩, ?_⟩⟩
    · rw [Store.get_put, Mem.put_ne _ (by decide)]; exact q1
    · rw [Store.get_put, Mem.put_ne _ (by decide)]; exact q2
    · rw [Store.get_put, Mem.put_ne _ (by decide)]; exact q3
    · rw [Store.get_put, Mem.put_self]
end
end Go.Proofs.Ytbgjmclpahganaa.Eng

/-
  VIOLATIONS, D: the end of a run, whole.
-/
namespace Go.Proofs.Ytbgjmclpahganaa.Eng
set_option linter.unusedSimpArgs false
set_option linter.unusedVariables false
def endV (q : Nat × AVal × Int) : AVal := .tup [.int .i64 q.1, q.2.1, .int .i64 q.2.2]
theorem endR_free {a b : List Kn} {r : Int} {s : Kn} {l : List Rd} {L M : Lim} : ∀ (k i : Nat), (endR a b r s l L M k i).2.1.strip = (endR a b r s l L M k i).2.1 ∧ (endR a b r s l L M k i).2.1.free = true
  | 0, i => ⟨rfl, rfl⟩
  | k + 1, i => by
    simp only [endR]
    split
    · exact ⟨rfl, rfl⟩
    · split
      · rename_i q _; obtain ⟨x, y⟩ := q; exact ⟨rfl, rfl⟩
      · exact endR_free k (i + 1)
theorem E52.end {a b : List Kn} {r : Int} {s : Kn} {l : List Rd} {L M : Lim} {tmR : List AVal} {n : Nat} {σ : Store} (hn : n < l.length) (h : E52 a b r s l L M tmR n σ) : ∃ cs, (endR a b r s l L M l.length 0).2.1 = .agg cs ∧ cs.length = 3 ∧ cs.all AVal.one = true ∧ σ.get 1 = some (.cells [.int .i64 (endR a b r s l L M l.length 0).1]) ∧ σ.get 2 = some (.cells cs) ∧ σ.get 3 = some (.cells [.int .i64 (endR a b r s l L M l.length 0).2.2]) := by
  obtain ⟨ok, ⟨v, e, cs, h1, rfl, h3, h4, h5, h6, h7⟩, _⟩ := h
  have hs := endR_skip (a := a) (b := b) (r := r) (s := s) (l := l) (L := L) (M := M) n (l.length - n) 0 (fun j _ j2 => ok j (by omega))
  rw [show n + (l.length - n) = l.length by omega, Nat.zero_add] at hs
  obtain ⟨k, hk⟩ : ∃ k, l.length - n = k + 1 := ⟨l.length - n - 1, by omega⟩
  rw [hs, hk]
  refine ⟨cs, ?_⟩
  rcases h1 with ⟨hz, hv, rfl⟩ | ⟨hz, q, hq, hv, rfl⟩
  · simp only [endR, hz, ne_eq, not_false_eq_true, if_true]
    exact ⟨hv.symm, h3, h4, h5, h6, h7⟩
  · simp only [endR, hz, ne_eq, not_true_eq_false, if_false, hq]
    exact ⟨hv.symm, h3, h4, h5, h6, h7⟩
section
variable {X : FuncId → Option XFunc} (hX : VVioCode X)
include hX
set_option maxHeartbeats 1000000 in
theorem range52 {a b : List Kn} {u v : AVal} (p : PV a b u v) (ta : Tab a) (tb : Tab b) {r : Int} (r0 : 0 ≤ r) (r1 : r ≤ 1000) {s : Kn} (v1 : isVol a s.1 = true) (v2 : isVol b s.2 = true) {l : List Rd} {w : AVal} (hw : RL l w) (hf : ∀ i, i < l.length → ferr l i = 0) (hl1 : l.length ≤ 100000) {L M : Lim} (oL : LimOk a L) (oM : LimOk b M) {tm : List AVal} (fr : Fr52 tm) (h24 : XOpd.eval tm (.t 24) = .fn 46 [] [.iptr [u, v, .int .i64 r, .int .i64 s.1, .int .i64 s.2] 0, .iptr [w] 0]) {σ : Store} (hn : σ.next = 6)
    (g0 : σ.get 0 = some (.cells ([u, v, .int .i64 r, .int .i64 s.1, .int .i64 s.2] ++ (L.cells ++ M.cells)))) (g1 : σ.get 1 = some (.cells [.int .i64 0])) (g2 : σ.get 2 = some (.cells [.int .i64 0, .int .i64 0, .int .i64 0])) (g3 : σ.get 3 = some (.cells [.int .i64 0])) (g4 : σ.get 4 = some (.tok 123 6 1)) (g5 : σ.get 5 = some (.cells [.list 6 (lvs a b (pst (stN a b r s l) 0)) (some 4)])) :
    (∃ τ, Run X (.code (.rangeF (.t 24) [25, 26] xf28a0 xf28b0)) tm σ = some (.normal, tm, τ) ∧ endR a b r s l L M l.length 0 = (l.length, zero3, 12) ∧ τ.get 1 = some (.cells [.int .i64 0]) ∧ τ.get 2 = some (.cells [.int .i64 0, .int .i64 0, .int .i64 0]) ∧ τ.get 3 = some (.cells [.int .i64 0])) ∨
    (∃ τ cs, Run X (.code (.rangeF (.t 24) [25, 26] xf28a0 xf28b0)) tm σ = some (.ret, tm, τ) ∧ (endR a b r s l L M l.length 0).2.1 = .agg cs ∧ cs.length = 3 ∧ cs.all AVal.one = true ∧ τ.get 1 = some (.cells [.int .i64 (endR a b r s l L M l.length 0).1]) ∧ τ.get 2 = some (.cells cs) ∧ τ.get 3 = some (.cells [.int .i64 (endR a b r s l L M l.length 0).2.2])) := by
  obtain ⟨σ0, hσ0⟩ : ∃ σ0, σ.new (.oth (.loop .ready tm [25, 26] xf28a0 xf28b0)) = σ0 := ⟨_, rfl⟩
  have n0 : σ0.next = 7 := by rw [← hσ0]; simp [Store.new, hn]
  have far0 : ∀ k, k ≠ 6 → σ0.get k = σ.get k := fun k hk => by rw [← hσ0, Store.get_new, Mem.put_ne _ (by omega)]
  have g6 : σ0.get 6 = some (.oth (.loop .ready tm [25, 26] xf28a0 xf28b0)) := by rw [← hσ0, Store.get_new, hn, Mem.put_self]
  have hJ0 : J52 a b u v r s l L M tm 0 σ0 :=
    ⟨by omega, fun j hj => by omega, by rw [far0 0 (by omega)]; exact g0, by rw [far0 1 (by omega)]; exact g1, by rw [far0 2 (by omega)]; exact g2, by rw [far0 3 (by omega)]; exact g3, by rw [far0 4 (by omega)]; exact g4, by rw [far0 5 (by omega)]; exact g5, g6⟩
  obtain ⟨τ, hrun, hend⟩ := t129 hX.runs.run p ta tb r0 r1 hw hf (by omega) v1 v2 (m := 6) (σ0 := σ0) (J := J52 a b u v r s l L M tm) (E := fun n τ => E52 a b r s l L M tm n τ) hJ0
    (fun i σ τ h1 h2 h3 => by rw [n0] at h2; exact h1.far h2 h3)
    (fun i σ hi hJ hq hy => by
      rw [n0] at hq
      obtain ⟨bo, σ', k1, k2, k3⟩ := rnd52 hX p ta tb v1 v2 oL oM fr hi hl1 hJ hq hy
      exact ⟨bo, σ', k1, by rw [n0]; exact k2, k3⟩)
  have hcall : Run X (.code (.rangeF (.t 24) [25, 26] xf28a0 xf28b0)) tm σ = rangeC (some (.ret, [.tup []], gc σ0 τ (.tup []))) 6 tm := by
    rw [Run_rangeF, h24]
    simp only [rangeD, List.nil_append, List.cons_append, hn, hσ0]
    rw [hrun]
  have gcg : ∀ k, k < 7 → (gc σ0 τ (.tup [])).get k = τ.get k := fun k hk => by
    simp only [gc, Store.get]
    rw [look_filter (p := fun n => Nat.blt n σ0.next || isIn (reach τ 10000 (σ0.objs.map (·.1) ++ (AVal.tup []).names) []) n)]
    have : Nat.blt k σ0.next = true := by rw [nat_blt, n0]; exact decide_eq_true hk
    simp [this]
  have dg : ∀ k, k < 6 → ((gc σ0 τ (.tup [])).drop 6).get k = τ.get k := fun k hk => by
    rw [drop_get, if_neg (by omega)]; exact gcg k (by omega)
  rcases hend with ⟨hJ, hall⟩ | ⟨n, hn2, hE, hall⟩
  · obtain ⟨_, ok, _, j1, j2, j3, _, _, j6⟩ := hJ
    have ho : rangeOut (gc σ0 τ (.tup [])) 6 = some .normal := by unfold rangeOut; rw [gcg 6 (by omega), j6]
    have hs := endR_skip (a := a) (b := b) (r := r) (s := s) (l := l) (L := L) (M := M) l.length 0 0 (fun j _ j2 => ok j (by omega))
    refine .inl ⟨(gc σ0 τ (.tup [])).drop 6, by rw [hcall, rangeC_some _ _ _ _ _ ho], ?_, by rw [dg 1 (by omega)]; exact j1, by rw [dg 2 (by omega)]; exact j2, by rw [dg 3 (by omega)]; exact j3⟩
    simpa [endR] using hs
  · obtain ⟨cs, k1, k2, k3, k4, k5, k6⟩ := hE.end hn2
    have ho : rangeOut (gc σ0 τ (.tup [])) 6 = some .ret := by unfold rangeOut; rw [gcg 6 (by omega), hE.2.2]
    exact .inr ⟨(gc σ0 τ (.tup [])).drop 6, cs, by rw [hcall, rangeC_some _ _ _ _ _ ho], k1, k2, k3, by rw [dg 1 (by omega)]; exact k4, by rw [dg 2 (by omega)]; exact k5, by rw [dg 3 (by omega)]; exact k6⟩
set_option maxHeartbeats 1000000 in
theorem z52 {a b : List Kn} {u v : AVal} (p : PV a b u v) (ta : Tab a) (tb : Tab b) {r : Int} (r0 : 0 ≤ r) (r1 : r ≤ 1000) {s : Kn} (v1 : isVol a s.1 = true) (v2 : isVol b s.2 = true) {l : List Rd} {w : AVal} (hw : RL l w) (hf : ∀ i, i < l.length → ferr l i = 0) (hl1 : l.length ≤ 100000) {L M : Lim} (oL : LimOk a L) (oM : LimOk b M) (σ : Store) :
    Run X (.call 28) [.agg ([u, v, .int .i64 r, .int .i64 s.1, .int .i64 s.2] ++ (L.cells ++ M.cells)), w] σ = some (.ret, [endV (endR a b r s l L M l.length 0)], σ) := by
  have ha := p.ka; have hb := p.kb
  obtain ⟨fs, ff⟩ := endR_free (a := a) (b := b) (r := r) (s := s) (l := l) (L := L) (M := M) l.length 0
  have := call2 (X := X) (a := .agg ([u, v, .int .i64 r, .int .i64 s.1, .int .i64 s.2] ++ (L.cells ++ M.cells))) (b := w) (v := endV (endR a b r s l L M l.length 0)) hX.h28 (by simp [AVal.strip, stripL, AVal.free, freeL, ha.strip, ha.free, hb.strip, hb.free, Lim.cells]) (by rw [hw.strip]; exact hw.free) (by decide) (fun tm hl a0 a1 => ?_) (by simp [endV, AVal.strip, stripL, AVal.free, freeL, fs, ff]) σ
  · simpa [endV, AVal.strip, stripL, fs] using this
  rw [hw.strip] at a1
  replace hl : tm.length = 56 := hl
  have z86 := z86 hX p ta tb r v1 v2
  have t92 := t92 hX.runs.run p r s.1 s.2 hw
  have e0 : xf28.body = .seq xf28.body.fst (.seq xf28.body.snd.fst (.seq (.seq xf28.body.snd.snd.fst.fst (.block 0 (.rangeF (.t 24) [25, 26] xf28a0 xf28b0))) xf28.body.snd.snd.snd)) := rfl
  unfold Gives
  rw [e0, seq_left, seq_left, Run_seq, seq_left, Run_seq]
  have hp0 : lvs a b (pst (stN a b r s l) 0) = [lv a b s] := rfl
  have eP : Ends (Run X (.code (.seq (.seq xf28.body.fst xf28.body.snd.fst) xf28.body.snd.snd.fst.fst)) tm Store.empty) .normal fun tm σ => Fr52 tm ∧ XOpd.eval tm (.t 1) = w ∧ XOpd.eval tm (.t 24) = .fn 46 [] [.iptr [u, v, .int .i64 r, .int .i64 s.1, .int .i64 s.2] 0, .iptr [w] 0] ∧ σ.next = 6 ∧
      σ.get 0 = some (.cells ([u, v, .int .i64 r, .int .i64 s.1, .int .i64 s.2] ++ (L.cells ++ M.cells))) ∧ σ.get 1 = some (.cells [.int .i64 0]) ∧ σ.get 2 = some (.cells [.int .i64 0, .int .i64 0, .int .i64 0]) ∧ σ.get 3 = some (.cells [.int .i64 0]) ∧ σ.get 4 = some (.tok 123 6 1) ∧ σ.get 5 = some (.cells [.list 6 (lvs a b (pst (stN a b r s l) 0)) (some 4)]) := by
    simp only [AVal.strip, stripL, ha.strip, hb.strip, Lim.cells, List.cons_append, List.nil_append] at a0
    rw [hp0]
    simp only [lv] at z86 ⊢
    simp [Fr52, xf28, XCode.fst, XCode.snd, hl, a0, a1, z86, t92, Lim.cells, ha.one, ha.strip, ha.free, hb.one, hb.strip, hb.free, hw.one, hw.strip, hw.free, Store.empty, Store.new, Store.put, Store.get, look, putL, setR, Store.only, Store.merge, touch, wrote, upTo, isIn, okRec, hits, capsOf, xcaps, stripL, AVal.strip, freeL, AVal.free, fillR, chunks, mkV, List.filter]
  obtain ⟨o1, o2, o2', o3, o4, g0, g1, g2, g3, g4, g5⟩ := out_of eP
  rw [o1, thenC_normal, Run_block]
  generalize outT X _ tm Store.empty = tm1 at *
  generalize outS X _ tm Store.empty = σ1 at *
  obtain ⟨hl, h2, h4, h5, h6, h7⟩ := o2
  rcases range52 hX p ta tb r0 r1 v1 v2 hw hf hl1 oL oM ⟨hl, h2, h4, h5, h6, h7⟩ o3 o4 g0 g1 g2 g3 g4 g5 with ⟨τ, k1, k2, k3, k4, k5⟩ | ⟨τ, cs, k1, k2, k3, k4, k5, k6, k7⟩
  · rw [k1, k2]
    simp [xf28, XCode.fst, XCode.snd, hl, o2', h4, h5, h6, k3, k4, k5, endV, zero3, hw.xlen, xresult, xrets, put_next, new_next, Store.get_new, Store.get_put, put_get, setR, only_get, merge_get', only_next, merge_next, upTo_self, upTo_one, merge_only, touch, wrote, isIn, okRec, hits, capsOf, xcaps, stripL, AVal.strip, freeL, AVal.free, fillR, chunks, mkV]
  · rw [k1]
    match cs, k3 with
    | [c1, c2, c3], _ =>
      simp [xf28, XCode.fst, XCode.snd, hl, h4, h5, h6, k2, k5, k6, k7, endV, xresult, xrets, put_next, new_next, Store.get_new, Store.get_put, put_get, setR, only_get, merge_get', only_next, merge_next, upTo_self, upTo_one, merge_only, touch, wrote, isIn, okRec, hits, capsOf, xcaps, stripL, AVal.strip, freeL, AVal.free, fillR, chunks, mkV]
end
end Go.Proofs.Ytbgjmclpahganaa.Eng

/-
  VIOLATIONS, E: errors of limits and tasks.
-/
namespace Go.Proofs.Ytbgjmclpahganaa.Eng
set_option linter.unusedSimpArgs false
set_option linter.unusedVariables false
def limErr (a : List Kn) (L : Lim) : Int := firstNZ [if !(isLev a L.1) || !(isLev a L.2.1) then 2 else 0, if !(wi L.2.2.1 0 1000000) || !(wi L.2.2.2.1 0 1000000) then 2 else 0, if !(wi L.2.2.2.2 1 200) then 2 else 0, if decide (L.2.1 < L.1) then 9 else 0]
theorem lim_ok {a : List Kn} {L : Lim} (h : limErr a L = 0) : LimOk a L := by
  unfold limErr at h
  cases h1 : isLev a L.1 <;> cases h2 : isLev a L.2.1 <;> simp [firstNZ, h1, h2] at h
  cases h3 : wi L.2.2.1 0 1000000 <;> cases h4 : wi L.2.2.2.1 0 1000000 <;> simp [h3, h4] at h
  cases h5 : wi L.2.2.2.2 1 200 <;> simp [h5] at h
  simp [wi] at h3 h4 h5
  exact ⟨h1, h2, h3.1, h3.2, h4.1, h4.2, h5.1, h5.2, by omega⟩
def limsErr (a b : List Kn) (L M : Lim) : Int := if limErr a L ≠ 0 then limErr a L else limErr b M
theorem lims_ok {a b : List Kn} {L M : Lim} (h : limsErr a b L M = 0) : LimOk a L ∧ LimOk b M := by
  unfold limsErr at h
  split at h
  · contradiction
  · rename_i h0; exact ⟨lim_ok (by simpa using h0), lim_ok h⟩
def tskErr (a b : List Kn) (L M : Lim) (l : List Rd) : Int := if limsErr a b L M ≠ 0 then limsErr a b L M else listErr l
section
variable {X : FuncId → Option XFunc} (hX : VVioCode X)
include hX
theorem errs94 (c1 c2 c3 c4 : Bool) (tok : Option Nat) (σ : Store) :
    Run X (.call 42) [.list 1 [.fn 65 [] [.iptr [.bool c1] 0, .iptr [.int .i64 2] 0], .fn 65 [] [.iptr [.bool c2] 0, .iptr [.int .i64 2] 0], .fn 65 [] [.iptr [.bool c3] 0, .iptr [.int .i64 2] 0], .fn 65 [] [.iptr [.bool c4] 0, .iptr [.int .i64 9] 0]] tok] σ = some (.ret, [.int .i64 (firstNZ [if c1 then 2 else 0, if c2 then 2 else 0, if c3 then 2 else 0, if c4 then 9 else 0])], σ) := by
  have hS := hX.runs.run.pair.tab.sea
  refine sea58 hS ⟨rfl, by simp [freeL, AVal.free], fun i h1 h2 => ?_⟩ (by simp) tok σ
  have hi : i = 0 ∨ i = 1 ∨ i = 2 ∨ i = 3 := by simp at h1; omega
  rcases hi with rfl | rfl | rfl | rfl
  · exact ⟨_, _, _, rfl, fun σ => sea106 hS _ 2 σ⟩
  · exact ⟨_, _, _, rfl, fun σ => sea106 hS _ 2 σ⟩
  · exact ⟨_, _, _, rfl, fun σ => sea106 hS _ 2 σ⟩
  · exact ⟨_, _, _, rfl, fun σ => sea106 hS _ 9 σ⟩
set_option maxHeartbeats 4000000 in
theorem z94 {a : List Kn} {u : AVal} (ha : KL a u) (ha0 : 0 < a.length) (hn : a.length ≤ 1000000) (L : Lim) (σ : Store) : Run X (.call 68) [.agg [u], .agg L.cells] σ = some (.ret, [.int .i64 (limErr a L)], σ) := by
  have hT := hX.runs.run.pair.tab
  have hS := hT.sea
  have t1 := t64 hT ha ha0 hn L.1; have t2 := t64 hT ha ha0 hn L.2.1
  have w := sea96 hS
  have s59 := sea59 hS
  have e94 := errs94 hX
  refine call2 (v := .int .i64 (limErr a L)) hX.h68 (by simp [AVal.strip, stripL, AVal.free, freeL, ha.strip, ha.free]) rfl (by decide) (fun tm hl h0 h1 => ?_) rfl σ
  simp only [AVal.strip, stripL, ha.strip, Lim.cells] at h0 h1
  replace hl : tm.length = 46 := hl
  unfold Gives limErr
  cases h1' : isLev a L.1
  · cases h3 : wi L.2.2.1 0 1000000
    · simp [xf68, hl, h0, h1, t1, t2, w, s59, e94, h1', h3, ha.one, ha.strip, ha.free, Store.empty, Store.new, Store.put, Store.get, look, putL, setR, Store.only, Store.merge, touch, wrote, upTo, isIn, okRec, hits, capsOf, xcaps, stripL, AVal.strip, freeL, AVal.free, fillR, chunks, mkV, List.filter]
    · simp [xf68, hl, h0, h1, t1, t2, w, s59, e94, h1', h3, ha.one, ha.strip, ha.free, Store.empty, Store.new, Store.put, Store.get, look, putL, setR, Store.only, Store.merge, touch, wrote, upTo, isIn, okRec, hits, capsOf, xcaps, stripL, AVal.strip, freeL, AVal.free, fillR, chunks, mkV, List.filter]
  · cases h3 : wi L.2.2.1 0 1000000
    · simp [xf68, hl, h0, h1, t1, t2, w, s59, e94, h1', h3, ha.one, ha.strip, ha.free, Store.empty, Store.new, Store.put, Store.get, look, putL, setR, Store.only, Store.merge, touch, wrote, upTo, isIn, okRec, hits, capsOf, xcaps, stripL, AVal.strip, freeL, AVal.free, fillR, chunks, mkV, List.filter]
    · simp [xf68, hl, h0, h1, t1, t2, w, s59, e94, h1', h3, ha.one, ha.strip, ha.free, Store.empty, Store.new, Store.put, Store.get, look, putL, setR, Store.only, Store.merge, touch, wrote, upTo, isIn, okRec, hits, capsOf, xcaps, stripL, AVal.strip, freeL, AVal.free, fillR, chunks, mkV, List.filter]
theorem z54 {a : List Kn} {u : AVal} (ha : KL a u) (ha0 : 0 < a.length) (hn : a.length ≤ 1000000) (L : Lim) (σ : Store) : Run X (.call 36) [.agg [u], .agg L.cells] σ = some (.ret, [.int .i64 (limErr a L)], σ) := by
  have hT := hX.runs.run.pair.tab
  have t1 := t19 hT ha ha0 hn L.1; have t2 := t19 hT ha ha0 hn L.2.1
  have w := sea25 hT.sea
  refine call2 (v := .int .i64 (limErr a L)) hX.h36 (by simp [AVal.strip, stripL, AVal.free, freeL, ha.strip, ha.free]) rfl (by decide) (fun tm hl h0 h1 => ?_) rfl σ
  simp only [AVal.strip, stripL, ha.strip, Lim.cells] at h0 h1
  replace hl : tm.length = 44 := hl
  unfold Gives limErr
  cases h1' : isLev a L.1
  · simp [xf36, hl, h0, h1, t1, t2, w, h1', firstNZ, ha.one, ha.strip, ha.free, Store.empty, Store.new, Store.put, Store.get, look, putL, setR, Store.only, Store.merge, touch, wrote, upTo, isIn, okRec, hits, capsOf, xcaps, stripL, AVal.strip, freeL, AVal.free, fillR, chunks, mkV, List.filter]
  cases h2' : isLev a L.2.1
  · simp [xf36, hl, h0, h1, t1, t2, w, h1', h2', firstNZ, ha.one, ha.strip, ha.free, Store.empty, Store.new, Store.put, Store.get, look, putL, setR, Store.only, Store.merge, touch, wrote, upTo, isIn, okRec, hits, capsOf, xcaps, stripL, AVal.strip, freeL, AVal.free, fillR, chunks, mkV, List.filter]
  cases h3 : wi L.2.2.1 0 1000000
  · simp [xf36, hl, h0, h1, t1, t2, w, h1', h2', h3, firstNZ, ha.one, ha.strip, ha.free, Store.empty, Store.new, Store.put, Store.get, look, putL, setR, Store.only, Store.merge, touch, wrote, upTo, isIn, okRec, hits, capsOf, xcaps, stripL, AVal.strip, freeL, AVal.free, fillR, chunks, mkV, List.filter]
  cases h4 : wi L.2.2.2.1 0 1000000
  · simp [xf36, hl, h0, h1, t1, t2, w, h1', h2', h3, h4, firstNZ, ha.one, ha.strip, ha.free, Store.empty, Store.new, Store.put, Store.get, look, putL, setR, Store.only, Store.merge, touch, wrote, upTo, isIn, okRec, hits, capsOf, xcaps, stripL, AVal.strip, freeL, AVal.free, fillR, chunks, mkV, List.filter]
  cases h5 : wi L.2.2.2.2 1 200
  · simp [xf36, hl, h0, h1, t1, t2, w, h1', h2', h3, h4, h5, firstNZ, ha.one, ha.strip, ha.free, Store.empty, Store.new, Store.put, Store.get, look, putL, setR, Store.only, Store.merge, touch, wrote, upTo, isIn, okRec, hits, capsOf, xcaps, stripL, AVal.strip, freeL, AVal.free, fillR, chunks, mkV, List.filter]
  by_cases h6 : L.2.1 < L.1
  · simp [xf36, hl, h0, h1, t1, t2, w, h1', h2', h3, h4, h5, h6, firstNZ, ha.one, ha.strip, ha.free, Store.empty, Store.new, Store.put, Store.get, look, putL, setR, Store.only, Store.merge, touch, wrote, upTo, isIn, okRec, hits, capsOf, xcaps, stripL, AVal.strip, freeL, AVal.free, fillR, chunks, mkV, List.filter]
  · simp [xf36, hl, h0, h1, t1, t2, w, h1', h2', h3, h4, h5, h6, firstNZ, ha.one, ha.strip, ha.free, Store.empty, Store.new, Store.put, Store.get, look, putL, setR, Store.only, Store.merge, touch, wrote, upTo, isIn, okRec, hits, capsOf, xcaps, stripL, AVal.strip, freeL, AVal.free, fillR, chunks, mkV, List.filter]
theorem z93 {a b : List Kn} {u v : AVal} (p : PV a b u v) (a0 : 0 < a.length) (b0 : 0 < b.length) (r : Int) (L M : Lim) (i : Nat) (hi : i < 2) (σ : Store) : Run X (.call 67) [.int .i64 i, .iptr [u, v, .int .i64 r] 0, .iptr [.list 5 [.agg L.cells, .agg M.cells] none] 0] σ = some (.ret, [.int .i64 (if i = 0 then limErr a L else limErr b M)], σ) := by
  have ha := p.ka; have hb := p.kb
  have t1 := z94 hX ha a0 p.na L; have t2 := z94 hX hb b0 p.nb M
  refine call3 (v := .int .i64 (if i = 0 then limErr a L else limErr b M)) hX.h67 rfl (by simp [AVal.strip, stripL, AVal.free, freeL, ha.strip, ha.free, hb.strip, hb.free]) (by simp [AVal.strip, stripL, AVal.free, freeL, Lim.cells]) (by decide) (fun tm hl h0 h1 h2 => ?_) rfl σ
  simp only [AVal.strip, stripL, ha.strip, hb.strip, Lim.cells] at h0 h1 h2
  simp only [Lim.cells] at t1 t2
  replace hl : tm.length = 14 := hl
  unfold Gives
  have hc : i = 0 ∨ i = 1 := by omega
  rcases hc with rfl | rfl
  · simp [xf67, hl, h0, h1, h2, t1, t2, idx, ha.one, ha.strip, ha.free, hb.one, hb.strip, hb.free, Store.empty, Store.new, Store.put, Store.get, look, putL, setR, Store.only, Store.merge, touch, wrote, upTo, isIn, okRec, hits, capsOf, xcaps, stripL, AVal.strip, freeL, AVal.free, fillR, chunks, mkV, List.filter]
  · simp [xf67, hl, h0, h1, h2, t1, t2, idx, ha.one, ha.strip, ha.free, hb.one, hb.strip, hb.free, Store.empty, Store.new, Store.put, Store.get, look, putL, setR, Store.only, Store.merge, touch, wrote, upTo, isIn, okRec, hits, capsOf, xcaps, stripL, AVal.strip, freeL, AVal.free, fillR, chunks, mkV, List.filter]
omit hX in
theorem fst2 (x y : Int) : (fstIx (fun i => if i = 0 then x else y) 2 0).2 = if x ≠ 0 then x else y := by
  by_cases hx : x = 0
  · by_cases hy : y = 0 <;> simp [fstIx, hx, hy]
  · simp [fstIx, hx]
theorem z56 {a b : List Kn} {u v : AVal} (p : PV a b u v) (a0 : 0 < a.length) (b0 : 0 < b.length) (r : Int) (L M : Lim) (tok : Option Nat) (σ : Store) : Run X (.call 48) [.agg [u, v, .int .i64 r], .list 5 [.agg L.cells, .agg M.cells] tok] σ = some (.ret, [.int .i64 (limsErr a b L M)], σ) := by
  have ha := p.ka; have hb := p.kb
  have t60 := t60 hX.runs.run.pair.tab (g := 67) (a := []) (b := [.iptr [u, v, .int .i64 r] 0, .iptr [.list 5 [.agg L.cells, .agg M.cells] none] 0]) (e := fun i => if i = 0 then limErr a L else limErr b M) (n := 2) (fun i hi _ σ => z93 hX p a0 b0 r L M i hi σ) (by omega) rfl (by simp [freeL, AVal.free, ha.free, hb.free, Lim.cells])
  have e : limsErr a b L M = (fstIx (fun i => if i = 0 then limErr a L else limErr b M) 2 0).2 := (fst2 _ _).symm
  rw [e]
  generalize fstIx (fun i => if i = 0 then limErr a L else limErr b M) 2 0 = q at *
  refine call2 (v := .int .i64 q.2) hX.h48 (by simp [AVal.strip, stripL, AVal.free, freeL, ha.strip, ha.free, hb.strip, hb.free]) (by simp [AVal.strip, stripL, AVal.free, freeL, Lim.cells]) (by decide) (fun tm hl h0 h1 => ?_) rfl σ
  simp only [AVal.strip, stripL, ha.strip, hb.strip, Lim.cells] at h0 h1
  have c2 : ((2 : Nat) : Int) = 2 := rfl
  simp only [Lim.cells, c2] at t60
  replace hl : tm.length = 15 := hl
  unfold Gives
  simp [xf48, hl, h0, h1, t60, ha.one, ha.strip, ha.free, hb.one, hb.strip, hb.free, Store.empty, Store.new, Store.put, Store.get, look, putL, setR, Store.only, Store.merge, touch, wrote, upTo, isIn, okRec, hits, capsOf, xcaps, stripL, AVal.strip, freeL, AVal.free, fillR, chunks, mkV, List.filter]
theorem z21 {a b : List Kn} {u v : AVal} (p : PV a b u v) (a0 : 0 < a.length) (b0 : 0 < b.length) (r : Int) (L M : Lim) (σ : Store) : Run X (.call 20) [.agg [u, v, .int .i64 r], .agg (L.cells ++ M.cells)] σ = some (.ret, [.int .i64 (limsErr a b L M)], σ) := by
  have ha := p.ka; have hb := p.kb
  have t1 := z54 hX ha a0 p.na L; have t2 := z54 hX hb b0 p.nb M
  refine call2 (v := .int .i64 (limsErr a b L M)) hX.h20 (by simp [AVal.strip, stripL, AVal.free, freeL, ha.strip, ha.free, hb.strip, hb.free]) rfl (by decide) (fun tm hl h0 h1 => ?_) rfl σ
  simp only [AVal.strip, stripL, ha.strip, hb.strip, Lim.cells, List.cons_append, List.nil_append] at h0 h1
  simp only [Lim.cells] at t1 t2
  replace hl : tm.length = 19 := hl
  unfold Gives limsErr
  by_cases c : limErr a L = 0
  · simp [xf20, hl, h0, h1, t1, t2, c, ha.one, ha.strip, ha.free, hb.one, hb.strip, hb.free, Store.empty, Store.new, Store.put, Store.get, look, putL, setR, Store.only, Store.merge, touch, wrote, upTo, isIn, okRec, hits, capsOf, xcaps, stripL, AVal.strip, freeL, AVal.free, fillR, chunks, mkV, List.filter]
  · simp [xf20, hl, h0, h1, t1, t2, c, ha.one, ha.strip, ha.free, hb.one, hb.strip, hb.free, Store.empty, Store.new, Store.put, Store.get, look, putL, setR, Store.only, Store.merge, touch, wrote, upTo, isIn, okRec, hits, capsOf, xcaps, stripL, AVal.strip, freeL, AVal.free, fillR, chunks, mkV, List.filter]
theorem z23 {a b : List Kn} {u v : AVal} (p : PV a b u v) (a0 : 0 < a.length) (b0 : 0 < b.length) (r : Int) (L M : Lim) {l : List Rd} {w : AVal} (hw : RL l w) (hl1 : l.length ≤ 1000000) (σ : Store) : Run X (.call 7) [.agg [u, v, .int .i64 r], .agg (L.cells ++ M.cells ++ [w])] σ = some (.ret, [.int .i64 (tskErr a b L M l)], σ) := by
  have ha := p.ka; have hb := p.kb
  have z21 := z21 hX p a0 b0 r L M
  have t40 := t40 hX.runs.run hw hl1
  refine call2 (v := .int .i64 (tskErr a b L M l)) hX.h7 (by simp [AVal.strip, stripL, AVal.free, freeL, ha.strip, ha.free, hb.strip, hb.free]) (by simp [AVal.strip, stripL, AVal.free, freeL, hw.strip, hw.free, Lim.cells]) (by decide) (fun tm hl h0 h1 => ?_) rfl σ
  simp only [AVal.strip, stripL, ha.strip, hb.strip, hw.strip, Lim.cells, List.cons_append, List.nil_append] at h0 h1
  simp only [Lim.cells, List.cons_append, List.nil_append] at z21
  replace hl : tm.length = 16 := hl
  unfold Gives tskErr
  by_cases c : limsErr a b L M = 0
  · simp [xf7, hl, h0, h1, z21, t40, c, ha.one, ha.strip, ha.free, hb.one, hb.strip, hb.free, hw.one, hw.strip, hw.free, Store.empty, Store.new, Store.put, Store.get, look, putL, setR, Store.only, Store.merge, touch, wrote, upTo, isIn, okRec, hits, capsOf, xcaps, stripL, AVal.strip, freeL, AVal.free, fillR, chunks, mkV, List.filter]
  · simp [xf7, hl, h0, h1, z21, t40, c, ha.one, ha.strip, ha.free, hb.one, hb.strip, hb.free, hw.one, hw.strip, hw.free, Store.empty, Store.new, Store.put, Store.get, look, putL, setR, Store.only, Store.merge, touch, wrote, upTo, isIn, okRec, hits, capsOf, xcaps, stripL, AVal.strip, freeL, AVal.free, fillR, chunks, mkV, List.filter]
theorem z84 {a b : List Kn} {u v : AVal} (p : PV a b u v) (a0 : 0 < a.length) (b0 : 0 < b.length) (r s1 s2 : Int) (L M : Lim) (σ : Store) : Run X (.call 47) [.iptr ([u, v, .int .i64 r, .int .i64 s1, .int .i64 s2] ++ (L.cells ++ M.cells)) 0] σ = some (.ret, [.int .i64 (limsErr a b L M)], σ) := by
  have ha := p.ka; have hb := p.kb
  have z56 := z56 hX p a0 b0 r L M
  refine call1 (v := .int .i64 (limsErr a b L M)) hX.h47 (by simp [AVal.strip, stripL, AVal.free, freeL, ha.strip, ha.free, hb.strip, hb.free, Lim.cells]) (by decide) (fun tm hl h0 => ?_) rfl σ
  simp only [AVal.strip, stripL, ha.strip, hb.strip, Lim.cells, List.cons_append, List.nil_append] at h0
  simp only [Lim.cells] at z56
  replace hl : tm.length = 8 := hl
  unfold Gives
  simp [xf47, hl, h0, z56, ha.one, ha.strip, ha.free, hb.one, hb.strip, hb.free, Store.empty, Store.new, Store.put, Store.get, look, putL, setR, Store.only, Store.merge, touch, wrote, upTo, isIn, okRec, hits, capsOf, xcaps, stripL, AVal.strip, freeL, AVal.free, fillR, chunks, mkV, List.filter]
theorem z85 (L M : Lim) {l : List Rd} {w : AVal} (hw : RL l w) (hl1 : l.length ≤ 1000000) (σ : Store) : Run X (.call 49) [.iptr (L.cells ++ M.cells ++ [w]) 0] σ = some (.ret, [.int .i64 (listErr l)], σ) := by
  have t91 := t91 hX.runs.run hw hl1
  refine call1 (v := .int .i64 (listErr l)) hX.h49 (by simp [AVal.strip, stripL, AVal.free, freeL, hw.strip, hw.free, Lim.cells]) (by decide) (fun tm hl h0 => ?_) rfl σ
  simp only [AVal.strip, stripL, hw.strip, Lim.cells, List.cons_append, List.nil_append] at h0
  replace hl : tm.length = 5 := hl
  unfold Gives
  simp [xf49, hl, h0, t91, hw.one, hw.strip, hw.free, Store.empty, Store.new, Store.put, Store.get, look, putL, setR, Store.only, Store.merge, touch, wrote, upTo, isIn, okRec, hits, capsOf, xcaps, stripL, AVal.strip, freeL, AVal.free, fillR, chunks, mkV, List.filter]
/-- What a watch is, and its error. -/
def wErr (a b : List Kn) (r : Int) (s : Kn) (L M : Lim) (l : List Rd) : Int := if bothErr a b r s.1 s.2 ≠ 0 then bothErr a b r s.1 s.2 else tskErr a b L M l
def zero15 : List AVal := [.nils, .nils, .int .i64 0, .int .i64 0, .int .i64 0, .int .i64 0, .int .i64 0, .int .i64 0, .int .i64 0, .int .i64 0, .int .i64 0, .int .i64 0, .int .i64 0, .int .i64 0, .int .i64 0]
def wVal (a b : List Kn) (u v : AVal) (r : Int) (s : Kn) (L M : Lim) : AVal := if bothErr a b r s.1 s.2 ≠ 0 then .agg zero15 else .agg ([u, v, .int .i64 r, .int .i64 s.1, .int .i64 s.2] ++ (L.cells ++ M.cells))
theorem z51 {a b : List Kn} {u v : AVal} (p : PV a b u v) (r : Int) (s : Kn) (L M : Lim) {l : List Rd} {w : AVal} (hw : RL l w) (hl1 : l.length ≤ 1000000) (σ : Store) : Run X (.call 27) [.agg [u, v, .int .i64 r], .agg [.int .i64 s.1, .int .i64 s.2], .agg (L.cells ++ M.cells ++ [w])] σ = some (.ret, [.tup [wVal a b u v r s L M, .int .i64 (wErr a b r s L M l)]], σ) := by
  have ha := p.ka; have hb := p.kb
  have t83 := t83 hX.runs.run.pair p r s.1 s.2
  have fw : (wVal a b u v r s L M).strip = wVal a b u v r s L M ∧ (wVal a b u v r s L M).free = true := by
    unfold wVal; split
    · exact ⟨rfl, rfl⟩
    · simp [AVal.strip, stripL, AVal.free, freeL, ha.strip, ha.free, hb.strip, hb.free, Lim.cells]
  have := call3 (X := X) (a := .agg [u, v, .int .i64 r]) (b := .agg [.int .i64 s.1, .int .i64 s.2]) (c := .agg (L.cells ++ M.cells ++ [w])) (v := .tup [wVal a b u v r s L M, .int .i64 (wErr a b r s L M l)]) hX.h27 (by simp [AVal.strip, stripL, AVal.free, freeL, ha.strip, ha.free, hb.strip, hb.free]) rfl (by simp [AVal.strip, stripL, AVal.free, freeL, hw.strip, hw.free, Lim.cells]) (by decide) (fun tm hl h0 h1 h2 => ?_) (by simp [AVal.strip, stripL, AVal.free, freeL, fw.1, fw.2]) σ
  · simpa [AVal.strip, stripL, fw.1] using this
  simp only [AVal.strip, stripL, ha.strip, hb.strip, hw.strip, Lim.cells, List.cons_append, List.nil_append] at h0 h1 h2
  replace hl : tm.length = 36 := hl
  unfold Gives wVal wErr
  by_cases hb0 : bothErr a b r s.1 s.2 = 0
  · obtain ⟨ta, tb, _, _, _, _⟩ := both_ok hb0
    have hp : pairErr a b r = 0 := by
      unfold bothErr at hb0; split at hb0
      · exact hb0
      · simp_all
    have hS := hX.runs.run.pair.tab.sea
    have e51 : ∀ tok σ, Run X (.call 42) [.list 1 [.fn 47 [] [.iptr ([u, v, .int .i64 r, .int .i64 s.1, .int .i64 s.2] ++ (L.cells ++ M.cells)) 0], .fn 49 [] [.iptr (L.cells ++ M.cells ++ [w]) 0]] tok] σ = some (.ret, [.int .i64 (firstNZ [limsErr a b L M, listErr l])], σ) := fun tok σ => by
      refine sea58 hS ⟨rfl, by simp [freeL, AVal.free, ha.free, hb.free, hw.free, Lim.cells], fun i h1 h2 => ?_⟩ (by simp) tok σ
      have hi : i = 0 ∨ i = 1 := by simp at h1; omega
      rcases hi with rfl | rfl
      · exact ⟨_, _, _, rfl, fun σ => z84 hX p (by have := ta.two; omega) (by have := tb.two; omega) r s.1 s.2 L M σ⟩
      · exact ⟨_, _, _, rfl, fun σ => z85 hX L M hw hl1 σ⟩
    have et : firstNZ [limsErr a b L M, listErr l] = tskErr a b L M l := by
      unfold tskErr
      by_cases c : limsErr a b L M = 0
      · by_cases c2 : listErr l = 0 <;> simp [firstNZ, c, c2]
      · simp [firstNZ, c]
    rw [et] at e51
    simp only [Lim.cells, List.cons_append, List.nil_append] at e51
    simp [xf27, hl, h0, h1, h2, t83, e51, hb0, sceneV, hp, Lim.cells, xresult, xrets, ha.one, ha.strip, ha.free, hb.one, hb.strip, hb.free, hw.one, hw.strip, hw.free, Store.empty, Store.new, Store.put, Store.get, look, putL, setR, Store.only, Store.merge, touch, wrote, upTo, isIn, okRec, hits, capsOf, xcaps, stripL, AVal.strip, freeL, AVal.free, fillR, chunks, mkV, List.filter]
  · unfold sceneV at t83
    split at t83 <;> simp [xf27, hl, h0, h1, h2, t83, hb0, zero15, xresult, xrets, ha.one, ha.strip, ha.free, hb.one, hb.strip, hb.free, hw.one, hw.strip, hw.free, Store.empty, Store.new, Store.put, Store.get, look, putL, setR, Store.only, Store.merge, touch, wrote, upTo, isIn, okRec, hits, capsOf, xcaps, stripL, AVal.strip, freeL, AVal.free, fillR, chunks, mkV, List.filter]
/-- The answer: the first violation, and the error. -/
def vioV (a b : List Kn) (r : Int) (s : Kn) (L M : Lim) (l : List Rd) : AVal := if wErr a b r s L M l ≠ 0 then zero3 else (endR a b r s l L M l.length 0).2.1
def vioE (a b : List Kn) (r : Int) (s : Kn) (L M : Lim) (l : List Rd) : Int := if wErr a b r s L M l ≠ 0 then wErr a b r s L M l else (endR a b r s l L M l.length 0).2.2
omit hX in
theorem endR_cells {a b : List Kn} {r : Int} {s : Kn} {l : List Rd} {L M : Lim} : ∀ (k i : Nat), ∃ x y z, (endR a b r s l L M k i).2.1 = .agg [.int .i64 x, .int .i64 y, .int .i64 z]
  | 0, i => ⟨_, _, _, rfl⟩
  | k + 1, i => by
    simp only [endR]
    split
    · exact ⟨_, _, _, rfl⟩
    · split
      · rename_i q _; obtain ⟨x, y⟩ := q; exact ⟨_, _, _, rfl⟩
      · exact endR_cells k (i + 1)
theorem z18 {a b : List Kn} {u v : AVal} (p : PV a b u v) (r : Int) (s : Kn) (L M : Lim) {l : List Rd} {w : AVal} (hw : RL l w) (hl1 : l.length ≤ 1000000) (σ : Store) : Run X (.call 12) [.agg [u, v, .int .i64 r], .agg [.int .i64 s.1, .int .i64 s.2], .agg (L.cells ++ M.cells ++ [w])] σ = some (.ret, [.tup [vioV a b r s L M l, .int .i64 (vioE a b r s L M l)]], σ) := by
  have ha := p.ka; have hb := p.kb
  have z51 := z51 hX p r s L M hw hl1
  have fv : (vioV a b r s L M l).strip = vioV a b r s L M l ∧ (vioV a b r s L M l).free = true := by
    unfold vioV; split
    · exact ⟨rfl, rfl⟩
    · exact endR_free _ _
  have := call3 (X := X) (a := .agg [u, v, .int .i64 r]) (b := .agg [.int .i64 s.1, .int .i64 s.2]) (c := .agg (L.cells ++ M.cells ++ [w])) (v := .tup [vioV a b r s L M l, .int .i64 (vioE a b r s L M l)]) hX.h12 (by simp [AVal.strip, stripL, AVal.free, freeL, ha.strip, ha.free, hb.strip, hb.free]) rfl (by simp [AVal.strip, stripL, AVal.free, freeL, hw.strip, hw.free, Lim.cells]) (by decide) (fun tm hl h0 h1 h2 => ?_) (by simp [AVal.strip, stripL, AVal.free, freeL, fv.1, fv.2]) σ
  · simpa [AVal.strip, stripL, fv.1] using this
  simp only [AVal.strip, stripL, ha.strip, hb.strip, hw.strip, Lim.cells, List.cons_append, List.nil_append] at h0 h1 h2
  simp only [Lim.cells, List.cons_append, List.nil_append] at z51
  replace hl : tm.length = 33 := hl
  unfold Gives vioV vioE
  by_cases hE : wErr a b r s L M l = 0
  · have hb0 : bothErr a b r s.1 s.2 = 0 := by
      unfold wErr at hE; split at hE
      · contradiction
      · simp_all
    have ht : tskErr a b L M l = 0 := by unfold wErr at hE; rw [if_neg (by simpa using hb0)] at hE; exact hE
    have hls : limsErr a b L M = 0 := by
      unfold tskErr at ht; split at ht
      · contradiction
      · simp_all
    have hll : listErr l = 0 := by unfold tskErr at ht; rw [if_neg (by simpa using hls)] at ht; exact ht
    obtain ⟨ta, tb, r0, r1, v1, v2⟩ := both_ok hb0
    obtain ⟨oL, oM⟩ := lims_ok hls
    obtain ⟨l2, hf⟩ := list_ok hll
    have z52 := z52 hX p ta tb r0 r1 v1 v2 hw hf (by omega) oL oM
    obtain ⟨x, y, z, he⟩ := endR_cells (a := a) (b := b) (r := r) (s := s) (l := l) (L := L) (M := M) l.length 0
    simp only [endV, he, Lim.cells, List.cons_append, List.nil_append] at z52
    rw [hE] at z51
    unfold wVal at z51
    rw [if_neg (by simpa using hb0)] at z51
    simp only [Lim.cells, List.cons_append, List.nil_append] at z51
    simp [xf12, hl, h0, h1, h2, z51, z52, hE, he, xresult, xrets, ha.one, ha.strip, ha.free, hb.one, hb.strip, hb.free, hw.one, hw.strip, hw.free, Store.empty, Store.new, Store.put, Store.get, look, putL, setR, Store.only, Store.merge, touch, wrote, upTo, isIn, okRec, hits, capsOf, xcaps, stripL, AVal.strip, freeL, AVal.free, fillR, chunks, mkV, List.filter]
  · unfold wVal at z51
    split at z51
    · simp [xf12, hl, h0, h1, h2, z51, hE, zero3, zero15, xresult, xrets, ha.one, ha.strip, ha.free, hb.one, hb.strip, hb.free, hw.one, hw.strip, hw.free, Store.empty, Store.new, Store.put, Store.get, look, putL, setR, Store.only, Store.merge, touch, wrote, upTo, isIn, okRec, hits, capsOf, xcaps, stripL, AVal.strip, freeL, AVal.free, fillR, chunks, mkV, List.filter]
    · simp only [Lim.cells, List.cons_append, List.nil_append] at z51
      simp [xf12, hl, h0, h1, h2, z51, hE, zero3, zero15, xresult, xrets, ha.one, ha.strip, ha.free, hb.one, hb.strip, hb.free, hw.one, hw.strip, hw.free, Store.empty, Store.new, Store.put, Store.get, look, putL, setR, Store.only, Store.merge, touch, wrote, upTo, isIn, okRec, hits, capsOf, xcaps, stripL, AVal.strip, freeL, AVal.free, fillR, chunks, mkV, List.filter]
end
end Go.Proofs.Ytbgjmclpahganaa.Eng
