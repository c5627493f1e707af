/-
  VIOLATIONS, A: levels that are compared.
-/
import Derived.Test.YtbgjmclpahganaaGreatRuns1
import Derived.Test.YtbgjmclpahganaaGreatCode2
import Derived.Test.YtbgjmclpahganaaGreatRead1
namespace Go.Proofs.YtbgjmclpahganaaGreat.Eng
set_option linter.unusedSimpArgs false
set_option linter.unusedVariables false

abbrev Lim := Int × Int × Int × Int × Int
def Lim.cells (L : Lim) : List AVal := [.int .i64 L.1, .int .i64 L.2.1, .int .i64 L.2.2.1, .int .i64 L.2.2.2.1, .int .i64 L.2.2.2.2]
/-- The level at a volume, exactly: whole, part, denominator. -/
def mx (l : List Kn) (x : Int) : Rdg := ((levR l x).1, sNum x (kat l (vix l x - 1)).2 (kat l (vix l x - 1)).1 (kat l (vix l x)).1 % ((kat l (vix l x)).2 - (kat l (vix l x - 1)).2), (kat l (vix l x)).2 - (kat l (vix l x - 1)).2)
def exc (m o : Rdg) (n : Int) : Bool := if m.1 - o.1 - n = 0 then decide (o.2.1 * m.2.2 < m.2.1 * o.2.2) else decide (0 < m.1 - o.1 - n)
structure MOk (m : Rdg) : Prop where
  a0 : 0 ≤ m.1
  a1 : m.1 ≤ 1000000
  b0 : 0 ≤ m.2.1
  b1 : m.2.1 < m.2.2
  b2 : m.2.2 ≤ 1000000000
def whl (n : Int) : Rdg := (n, 0, 1)
theorem whl_ok {n : Int} (h0 : 0 ≤ n) (h1 : n ≤ 1000000) : MOk (whl n) := ⟨h0, h1, by simp [whl], by simp [whl], by simp [whl]⟩
theorem mx_ok {l : List Kn} (t : Tab l) {x : Int} (h : isVol l x = true) : MOk (mx l x) := by
  have s := vix_s t h
  obtain ⟨j1, j2, j3, j4⟩ := vix_in t h
  have i1 := t.inr _ j2; have i2 := t.inr (vix l x - 1) (by omega); have i3 := t.inc _ j1 j2
  unfold InR at i1 i2
  obtain ⟨k1, k2, k3, k4, k5⟩ := s.lo
  have e1 : (mx l x).1 = sLo x (kat l (vix l x - 1)).2 (kat l (vix l x)).2 (kat l (vix l x - 1)).1 (kat l (vix l x)).1 := rfl
  have e2 : (mx l x).2.1 = sNum x (kat l (vix l x - 1)).2 (kat l (vix l x - 1)).1 (kat l (vix l x)).1 % ((kat l (vix l x)).2 - (kat l (vix l x - 1)).2) := rfl
  have e3 : (mx l x).2.2 = (kat l (vix l x)).2 - (kat l (vix l x - 1)).2 := rfl
  have m0 := Int.emod_nonneg (sNum x (kat l (vix l x - 1)).2 (kat l (vix l x - 1)).1 (kat l (vix l x)).1) (b := (kat l (vix l x)).2 - (kat l (vix l x - 1)).2) (by omega)
  have m1 := Int.emod_lt_of_pos (sNum x (kat l (vix l x - 1)).2 (kat l (vix l x - 1)).1 (kat l (vix l x)).1) (b := (kat l (vix l x)).2 - (kat l (vix l x - 1)).2) (by omega)
  constructor <;> omega
/-- The numerator of the whole number. -/
def mnum (m : Rdg) : Int := m.1 * m.2.2 + m.2.1
theorem exc_iff {m o : Rdg} (hm : MOk m) (ho : MOk o) (n : Int) : exc m o n = true ↔ n * (m.2.2 * o.2.2) < mnum m * o.2.2 - mnum o * m.2.2 := by
  obtain ⟨m1, p, d⟩ := m
  obtain ⟨o1, q, e⟩ := o
  obtain ⟨_, _, a3, a4, _⟩ := hm
  obtain ⟨_, _, b3, b4, _⟩ := ho
  simp only [exc, mnum] at *
  have pe0 : 0 ≤ p * e := Int.mul_nonneg a3 (by omega)
  have qd0 : 0 ≤ q * d := Int.mul_nonneg b3 (by omega)
  have pe1 : p * e < d * e := Int.mul_lt_mul_of_pos_right a4 (by omega)
  have qd1 : q * d < d * e := by rw [Int.mul_comm d e]; exact Int.mul_lt_mul_of_pos_right b4 (by omega)
  have key : (m1 * d + p) * e - (o1 * e + q) * d - n * (d * e) = (m1 - o1 - n) * (d * e) + (p * e - q * d) := by
    have e1 : m1 * d * e = m1 * (d * e) := by rw [Int.mul_assoc]
    have e2 : o1 * e * d = o1 * (d * e) := by rw [Int.mul_assoc, Int.mul_comm e d]
    rw [Int.add_mul, Int.add_mul, Int.sub_mul, Int.sub_mul, e1, e2]; omega
  split
  · rename_i h0
    rw [h0, Int.zero_mul] at key
    rw [decide_eq_true_iff]; omega
  · rename_i h0
    rw [decide_eq_true_iff]
    generalize hE : m1 - o1 - n = E at *
    constructor
    · intro h
      have : 1 * (d * e) ≤ E * (d * e) := Int.mul_le_mul_of_nonneg_right (by omega) (by omega)
      omega
    · intro h
      by_cases hE0 : 0 < E
      · exact hE0
      · have : E * (d * e) ≤ (-1) * (d * e) := Int.mul_le_mul_of_nonneg_right (by omega) (by omega)
        omega
/-- What is violated. -/
def vb (a : List Kn) (L : Lim) (x y : Int) : Nat → Bool
  | 0 => exc (whl L.1) (mx a x) 0
  | 1 => exc (mx a x) (whl L.2.1) 0
  | 2 => exc (mx a y) (mx a x) L.2.2.1
  | _ => exc (mx a x) (mx a y) L.2.2.2.1
def IsV5 (num den : Int) (v : AVal) : Prop := ∃ n d, IsR n d v ∧ n * den = num * d ∧ ab n < pw 5 ∧ ab d < pw 2
theorem IsV5.told {n d : Int} : ∀ v, IsV5 n d v → Told (IsV5 n d) v := fun v ⟨n', d', h2, h1⟩ => ⟨by rw [h2.strip]; exact h2.free, n', d', by rw [h2.strip]; exact h2, h1⟩
/-- Limits that are valid. -/
structure LimOk (a : List Kn) (L : Lim) : Prop where
  lo : isLev a L.1 = true
  hi : isLev a L.2.1 = true
  f0 : 0 ≤ L.2.2.1
  f1 : L.2.2.1 ≤ 1000000
  r0 : 0 ≤ L.2.2.2.1
  r1 : L.2.2.2.1 ≤ 1000000
  w0 : 1 ≤ L.2.2.2.2
  w1 : L.2.2.2.2 ≤ 200
  le : L.1 ≤ L.2.1
theorem lev_in {a : List Kn} (t : Tab a) {x : Int} (h : isLev a x = true) : 0 ≤ x ∧ x ≤ 1000000 := by
  have a2 := t.two
  have i0 := t.inr 0 (by omega); have i1 := t.inr (a.length - 1) (by omega)
  have := isLev_iff.1 h
  unfold InR at i0 i1
  omega
section
variable {X : FuncId → Option XFunc} (hX : VVioCode X)
include hX
theorem z97 {l : List Kn} {v : AVal} (h : KL l v) (t : Tab l) {x : Int} (hx : isVol l x = true) :
    ∃ w, IsV5 ((kat l (vix l x - 1)).1 * ((kat l (vix l x)).2 - (kat l (vix l x - 1)).2) + sNum x (kat l (vix l x - 1)).2 (kat l (vix l x - 1)).1 (kat l (vix l x)).1) ((kat l (vix l x)).2 - (kat l (vix l x - 1)).2) w ∧ ∀ σ, Run X (.call 97) [.agg [v], .int .i64 x] σ = some (.ret, [w], σ) := by
  have h2 := t.two; have h10 := t.ten
  have := h.list (by omega)
  subst this
  have t79 := t79 hX.runs.run.pair.tab h t hx
  obtain ⟨j1, j2, j3, j4⟩ := vix_in t hx
  have i1 := t.inr _ j2; have i2 := t.inr (vix l x - 1) (by omega); have i3 := t.inc _ j1 j2
  obtain ⟨u, ⟨n', d', r1, r2⟩, u2⟩ := t74 hX.runs.run.pair.tab h (i := vix l x) (by omega) j2 (by omega) i2 i1 (by omega)
  unfold InR at i1 i2
  generalize hj : vix l x = j at *
  generalize hka : kat l (j - 1) = a at *
  generalize hkb : kat l j = b at *
  obtain ⟨A, A1, A2⟩ := w121 hX.runs.run.pair.tab.wide (n := a.1) (by omega) (by omega)
  obtain ⟨B, B1, B2⟩ := w121 hX.runs.run.pair.tab.wide (n := x - a.2) (by omega) (by omega)
  obtain ⟨rp, rc, rs, rt⟩ := r1
  have sn' : ab n' < pw 2 := by have : ab (b.2 - a.2) < pw 2 := ab_lt (b := 1000000000000000000) (by omega) (by omega) (by rw [pw2]; omega); omega
  have sd' : ab d' < pw 2 := by have : ab (b.1 - a.1) < pw 2 := ab_lt (b := 1000000000000000000) (by omega) (by omega) (by rw [pw2]; omega); rw [ab_pos (by omega : 0 ≤ d')]; omega
  have sx : ab (x - a.2) < pw 2 := ab_lt (b := 1000000000000000000) (by omega) (by omega) (by rw [pw2]; omega)
  have sy : ab a.1 < pw 2 := ab_lt (b := 1000000000000000000) (by omega) (by omega) (by rw [pw2]; omega)
  have s1 : ab 1 < pw 2 := ab_lt (b := 1000000000000000000) (by omega) (by omega) (by rw [pw2]; omega)
  have np : 0 < n' := by
    have : 0 < n' * (b.1 - a.1) := by rw [rc]; exact Int.mul_pos (by omega) rp
    exact Int.pos_of_mul_pos_left this (by omega)
  obtain ⟨C, ⟨n2, d2, q1, q2⟩, C2⟩ := w123 hX.runs.run.pair.tab.wide B1 r2 (by omega) (size_le (by omega) sx) (size_le (by omega) s1) (size_le (by omega) sn') (size_le (by omega) sd')
  obtain ⟨qp, qc, qs, qt⟩ := q1
  rw [Int.one_mul] at qc qt
  have sn2 : ab n2 < pw 4 := by have : ab ((x - a.2) * d') < pw 4 := size_mul sx sd'; omega
  have sd2 : ab d2 < pw 2 := by rw [ab_pos (by omega : 0 ≤ d2)]; omega
  obtain ⟨D, ⟨n3, d3, p1, p2⟩, D2⟩ := w120 hX.runs.run.pair.tab.wide A1 q2 (size_le (by omega) sy) (size_le (by omega) s1) (size_le (by omega) sn2) (size_le (by omega) sd2)
  obtain ⟨pp, pc', ps, pt⟩ := p1
  rw [Int.one_mul, Int.mul_one] at pc'
  rw [Int.one_mul] at pt
  rw [Int.mul_one] at ps
  have sn3 : ab n3 < pw 5 := by have : ab (a.1 * d2 + n2) < pw 5 := size_add (i := 4) (size_mul sy sd2) sn2; omega
  have sd3 : ab d3 < pw 2 := by rw [ab_pos (by omega : 0 ≤ d3)]; omega
  have hv : IsV5 (a.1 * (b.2 - a.2) + sNum x a.2 a.1 b.1) (b.2 - a.2) D := ⟨n3, d3, p2, line_cross (n' := d') (d' := n') np qp (by rw [Int.mul_comm d', ← rc, Int.mul_comm]) qc pc', sn3, sd3⟩
  have := IsV5.told _ hv
  have fA := A1.free; have tA := A1.strip; have fB := B1.free; have tB := B1.strip; have fC := q2.free; have tC := q2.strip; have fu := r2.free; have tu := r2.strip; have fD := p2.free; have tD := p2.strip
  obtain ⟨e1, f1, e2, f2, rfl, o1, o2, _⟩ := p2
  refine call2E hX.h97 (by simp [AVal.strip, stripL, AVal.free, freeL, kns_strip, kns_free]) rfl (by decide) fun tm hl a0 a1 => ?_
  simp only [AVal.strip, stripL, kns_strip] at a0 a1
  replace hl : tm.length = 29 := hl
  generalize Told (IsV5 (a.1 * (b.2 - a.2) + sNum x a.2 a.1 b.1) (b.2 - a.2)) = Φ at this ⊢
  have w1 : IntKind.i64.wrap ((j : Int) - 1) = ((j - 1 : Nat) : Int) := by rw [wrap_i64] <;> omega
  have w2 : IntKind.i64.wrap (x - a.2) = x - a.2 := by rw [wrap_i64] <;> omega
  have j5 : j - 1 < l.length := by omega
  unfold GivesE
  simp [xf97, hl, a0, a1, t79, w1, w2, j5, hka, A2, B2, C2, D2, u2, fA, tA, fB, tB, fC, tC, fu, tu, o1.one, o2.one, Kn.enc, kns_free, kns_strip, Store.empty, Store.new, Store.put, Store.get, look, putL, setR, Store.only, Store.merge, touch, wrote, upTo, isIn, okRec, hits, capsOf, xcaps, stripL, AVal.strip, freeL, AVal.free, fillR, chunks, mkV, List.filter]
  exact this


theorem z141 (n : Int) (σ : Store) : Run X (.call 141) [.int .i64 n] σ = some (.ret, [(whl n).enc], σ) := by
  refine call1 (v := (whl n).enc) hX.h141 rfl (by decide) (fun tm hl h0 => ?_) rfl σ
  simp only [AVal.strip] at h0
  replace hl : tm.length = 5 := hl
  unfold Gives
  simp [xf141, hl, h0, whl, Rdg.enc, Store.empty, Store.new, Store.put, Store.get, look, putL, setR, Store.only, Store.merge, touch, wrote, upTo, isIn, okRec, hits, capsOf, xcaps, stripL, AVal.strip, freeL, AVal.free, fillR, chunks, mkV, List.filter]
theorem z142 {m o : Rdg} (hm : MOk m) (ho : MOk o) {n : Int} (n0 : 0 ≤ n) (n1 : n ≤ 1000000) (σ : Store) : Run X (.call 142) [m.enc, o.enc, .int .i64 n] σ = some (.ret, [.bool (exc m o n)], σ) := by
  obtain ⟨m1, p, d⟩ := m
  obtain ⟨o1, q, e⟩ := o
  obtain ⟨a1, a2, a3, a4, a5⟩ := hm
  obtain ⟨b1, b2, b3, b4, b5⟩ := ho
  simp only at a1 a2 a3 a4 a5 b1 b2 b3 b4 b5
  have w1 : IntKind.i64.wrap (m1 - o1) = m1 - o1 := by rw [wrap_i64] <;> omega
  have w2 : IntKind.i64.wrap (m1 - o1 - n) = m1 - o1 - n := by rw [wrap_i64] <;> omega
  have w3 : IntKind.i64.wrap (p * e) = p * e := mul_ok (by omega) (by omega) (by omega) (by omega)
  have w4 : IntKind.i64.wrap (q * d) = q * d := mul_ok (by omega) (by omega) (by omega) (by omega)
  refine call3 (v := .bool (exc (m1, p, d) (o1, q, e) n)) hX.h142 rfl rfl rfl (by decide) (fun tm hl h0 h1 h2 => ?_) rfl σ
  simp only [AVal.strip, stripL, Rdg.enc] at h0 h1 h2
  replace hl : tm.length = 30 := hl
  unfold Gives exc
  by_cases c : m1 - o1 - n = 0
  · simp [xf142, hl, h0, h1, h2, w1, w2, w3, w4, c, Store.empty, Store.new, Store.put, Store.get, look, putL, setR, Store.only, Store.merge, touch, wrote, upTo, isIn, okRec, hits, capsOf, xcaps, stripL, AVal.strip, freeL, AVal.free, fillR, chunks, mkV, List.filter]
  · simp [xf142, hl, h0, h1, h2, w1, w2, w3, w4, c, Store.empty, Store.new, Store.put, Store.get, look, putL, setR, Store.only, Store.merge, touch, wrote, upTo, isIn, okRec, hits, capsOf, xcaps, stripL, AVal.strip, freeL, AVal.free, fillR, chunks, mkV, List.filter]
theorem z120 {a : List Kn} (t : Tab a) {L : Lim} (hL : LimOk a L) {x y : Int} (hx : isVol a x = true) (hy : isVol a y = true) (σ : Store) :
    Run X (.call 120) [.agg L.cells, (mx a x).enc, (mx a y).enc] σ = some (.ret, [.agg [.bool (vb a L x y 0), .bool (vb a L x y 1), .bool (vb a L x y 2), .bool (vb a L x y 3)]], σ) := by
  have ox := mx_ok t hx; have oy := mx_ok t hy
  have l0 := lev_in t hL.lo; have l1 := lev_in t hL.hi
  have c0 := z142 hX (whl_ok l0.1 l0.2) ox (n := 0) (by omega) (by omega)
  have c1 := z142 hX ox (whl_ok l1.1 l1.2) (n := 0) (by omega) (by omega)
  have c2 := z142 hX oy ox hL.f0 hL.f1
  have c3 := z142 hX ox oy hL.r0 hL.r1
  have c4 := z141 hX L.1; have c5 := z141 hX L.2.1
  generalize hmx : mx a x = p at *
  generalize hmy : mx a y = q at *
  simp only [vb, hmx, hmy]
  refine call3 (v := .agg [.bool (exc (whl L.1) p 0), .bool (exc p (whl L.2.1) 0), .bool (exc q p L.2.2.1), .bool (exc p q L.2.2.2.1)]) hX.h120 rfl rfl rfl (by decide) (fun tm hl h0 h1 h2 => ?_) rfl σ
  simp only [AVal.strip, stripL, Rdg.enc, Lim.cells] at h0 h1 h2
  replace hl : tm.length = 30 := hl
  simp only [Rdg.enc] at c0 c1 c2 c3 c4 c5
  unfold Gives
  simp [xf120, hl, h0, h1, h2, c0, c1, c2, c3, c4, c5, Store.empty, Store.new, Store.put, Store.get, look, putL, setR, Store.only, Store.merge, touch, wrote, upTo, isIn, okRec, hits, capsOf, xcaps, stripL, AVal.strip, freeL, AVal.free, fillR, chunks, mkV, List.filter]
theorem z127 {n d : Int} {v : AVal} (h : IsR n d v) : ∃ w, IsR (-n) d w ∧ ∀ σ, Run X (.call 127) [v] σ = some (.ret, [w], σ) := by
  have hW := hX.runs.run.pair.tab.wide
  have hs := h.strip; have hf := h.free
  obtain ⟨s1, d1, s2, d2, rfl, c1, c2, hd⟩ := h
  obtain ⟨u, hu, w147⟩ := w147 hW c1
  obtain ⟨s3, d3, rfl, c3⟩ := hu.cells
  refine ⟨.agg [s3, d3, s2, d2], ⟨s3, d3, s2, d2, rfl, c3, c2, hd⟩, fun σ => ?_⟩
  have hr : IsR (-n) d (.agg [s3, d3, s2, d2]) := ⟨s3, d3, s2, d2, rfl, c3, c2, hd⟩
  have hrs := hr.strip
  have := call1 (X := X) (v := .agg [s3, d3, s2, d2]) hX.h127 (by rw [hs]; exact hf) (by decide) (fun tm hl h0 => ?_) (by rw [hrs]; exact hr.free) σ
  · rwa [hrs] at this
  rw [hs] at h0
  replace hl : tm.length = 9 := hl
  unfold Gives
  simp [xf127, hl, h0, w147, c1.one, c1.strip, c1.free, c2.one, c2.strip, c2.free, c3.one, c3.strip, c3.free, Store.empty, Store.new, Store.put, Store.get, look, putL, setR, Store.only, Store.merge, touch, wrote, upTo, isIn, okRec, hits, capsOf, xcaps, stripL, AVal.strip, freeL, AVal.free, fillR, chunks, mkV, List.filter]
theorem z101 {n1 d1 n2 d2 : Int} {u v : AVal} (hu : IsR n1 d1 u) (hv : IsR n2 d2 v) (a1 : ab n1 < pw 5) (a2 : ab d1 < pw 2) (b1 : ab n2 < pw 5) (b2 : ab d2 < pw 2) :
    ∃ w n d, IsR n d w ∧ n * (d1 * d2) = (n1 * d2 - n2 * d1) * d ∧ ab n < pw 15 ∧ ab d < pw 15 ∧ ∀ σ, Run X (.call 101) [u, v] σ = some (.ret, [w], σ) := by
  have hW := hX.runs.run.pair.tab.wide
  obtain ⟨v', hv', z127⟩ := z127 hX hv
  obtain ⟨w, ⟨n, d, ⟨rp, rc, rs, rt⟩, hw⟩, w120⟩ := w120 hW hu hv' (size_le (by omega) a1) (size_le (by omega) a2) (by rw [ab_neg]; exact size_le (by omega) b1) (size_le (by omega) b2)
  have s1 : ab (n1 * d2) < pw 7 := size_mul a1 b2
  have s2 : ab (-n2 * d1) < pw 7 := size_mul (by rw [ab_neg]; exact b1) a2
  have s3 : ab (n1 * d2 + -n2 * d1) < pw 8 := size_add s1 s2
  have s4 : ab (d1 * d2) < pw 4 := size_mul a2 b2
  have sn : ab n < pw 8 := by omega
  have sd : ab d < pw 4 := by rw [ab_pos (by omega : 0 ≤ d)]; omega
  refine ⟨w, n, d, hw, by rw [rc, Int.neg_mul, Int.sub_eq_add_neg], size_le (by omega) sn, size_le (by omega) sd, fun σ => ?_⟩
  have hws := hw.strip
  have fu := hu.free; have tu := hu.strip; have fv := hv.free; have tv := hv.strip; have fv' := hv'.free; have tv' := hv'.strip; have fw := hw.free
  obtain ⟨e1, f1, e2, f2, rfl, o1, o2, _⟩ := hw
  obtain ⟨g1, h1, g2, h2, rfl, p1, p2, _⟩ := hu
  obtain ⟨k1, l1, k2, l2, rfl, q1, q2, _⟩ := hv
  have := call2 (X := X) (v := .agg [e1, f1, e2, f2]) hX.h101 (by rw [tu]; exact fu) (by rw [tv]; exact fv) (by decide) (fun tm hl h0 h1 => ?_) (by rw [hws]; exact fw) σ
  · rwa [hws] at this
  rw [tu] at h0
  rw [tv] at h1
  replace hl : tm.length = 9 := hl
  unfold Gives
  simp [xf101, hl, h0, h1, z127, w120, fv', tv', o1.one, o2.one, p1.one, p1.strip, p1.free, p2.one, p2.strip, p2.free, q1.one, q1.strip, q1.free, q2.one, q2.strip, q2.free, Store.empty, Store.new, Store.put, Store.get, look, putL, setR, Store.only, Store.merge, touch, wrote, upTo, isIn, okRec, hits, capsOf, xcaps, stripL, AVal.strip, freeL, AVal.free, fillR, chunks, mkV, List.filter]
theorem z95 {u v : AVal} {a b : List Kn} (p : PV a b u v) (r : Int) (i : Nat) (σ : Store) : Run X (.call 95) [.agg [u, v, .int .i64 r], .int .i64 i] σ = some (.ret, [.agg [if i = 0 then u else v]], σ) := by
  have ha := p.ka; have hb := p.kb
  have := call2 (X := X) (a := .agg [u, v, .int .i64 r]) (b := .int .i64 i) (v := .agg [if i = 0 then u else v]) hX.h95 (by simp [AVal.strip, stripL, AVal.free, freeL, ha.strip, ha.free, hb.strip, hb.free]) rfl (by decide) (fun tm hl h0 h1 => ?_) (by split <;> simp [AVal.strip, stripL, AVal.free, freeL, ha.strip, ha.free, hb.strip, hb.free]) σ
  · simpa [AVal.strip, stripL, apply_ite AVal.strip, ha.strip, hb.strip] using this
  simp only [AVal.strip, stripL, ha.strip, hb.strip] at h0 h1
  replace hl : tm.length = 11 := hl
  unfold Gives
  by_cases c : i = 0
  · simp [xf95, hl, h0, h1, c, ha.one, hb.one, Store.empty, Store.new, Store.put, Store.get, look, putL, setR, Store.only, Store.merge, touch, wrote, upTo, isIn, okRec, hits, capsOf, xcaps, stripL, AVal.strip, freeL, AVal.free, fillR, chunks, mkV, List.filter]
  · simp [xf95, hl, h0, h1, c, ha.one, hb.one, Store.empty, Store.new, Store.put, Store.get, look, putL, setR, Store.only, Store.merge, touch, wrote, upTo, isIn, okRec, hits, capsOf, xcaps, stripL, AVal.strip, freeL, AVal.free, fillR, chunks, mkV, List.filter]
theorem z96 (L M : Lim) (i : Nat) (σ : Store) : Run X (.call 96) [.agg (L.cells ++ M.cells), .int .i64 i] σ = some (.ret, [.agg (if i = 0 then L else M).cells], σ) := by
  refine call2 (v := .agg (if i = 0 then L else M).cells) hX.h96 rfl rfl (by decide) (fun tm hl h0 h1 => ?_) rfl σ
  simp only [AVal.strip, stripL, Lim.cells, List.cons_append, List.nil_append] at h0 h1
  replace hl : tm.length = 11 := hl
  unfold Gives
  by_cases c : i = 0
  · simp [xf96, hl, h0, h1, c, Lim.cells, Store.empty, Store.new, Store.put, Store.get, look, putL, setR, Store.only, Store.merge, touch, wrote, upTo, isIn, okRec, hits, capsOf, xcaps, stripL, AVal.strip, freeL, AVal.free, fillR, chunks, mkV, List.filter]
  · simp [xf96, hl, h0, h1, c, Lim.cells, Store.empty, Store.new, Store.put, Store.get, look, putL, setR, Store.only, Store.merge, touch, wrote, upTo, isIn, okRec, hits, capsOf, xcaps, stripL, AVal.strip, freeL, AVal.free, fillR, chunks, mkV, List.filter]
theorem z98 (k : Kn) (i : Nat) (σ : Store) : Run X (.call 98) [k.enc, .int .i64 i] σ = some (.ret, [.int .i64 (if i = 0 then k.1 else k.2)], σ) := by
  refine call2 (v := .int .i64 (if i = 0 then k.1 else k.2)) hX.h98 rfl rfl (by decide) (fun tm hl h0 h1 => ?_) rfl σ
  simp only [AVal.strip, stripL, Kn.enc] at h0 h1
  replace hl : tm.length = 11 := hl
  unfold Gives
  by_cases c : i = 0
  · simp [xf98, hl, h0, h1, c, Store.empty, Store.new, Store.put, Store.get, look, putL, setR, Store.only, Store.merge, touch, wrote, upTo, isIn, okRec, hits, capsOf, xcaps, stripL, AVal.strip, freeL, AVal.free, fillR, chunks, mkV, List.filter]
  · simp [xf98, hl, h0, h1, c, Store.empty, Store.new, Store.put, Store.get, look, putL, setR, Store.only, Store.merge, touch, wrote, upTo, isIn, okRec, hits, capsOf, xcaps, stripL, AVal.strip, freeL, AVal.free, fillR, chunks, mkV, List.filter]
end
end Go.Proofs.YtbgjmclpahganaaGreat.Eng

/-
  VIOLATIONS, B: the first violation at a tick.
-/
namespace Go.Proofs.YtbgjmclpahganaaGreat.Eng
set_option linter.unusedSimpArgs false
set_option linter.unusedVariables false

def lv (a b : List Kn) (k : Kn) : AVal := .agg [.int .i64 (mx a k.1).1, .int .i64 (mx a k.1).2.1, .int .i64 (mx a k.1).2.2, .int .i64 (mx b k.2).1, .int .i64 (mx b k.2).2.1, .int .i64 (mx b k.2).2.2]
def lvs (a b : List Kn) (l : List Kn) : List AVal := l.map (lv a b)
theorem lvs_free (a b : List Kn) (l : List Kn) : freeL (lvs a b l) = true := by rw [freeL_all]; intro x hx; obtain ⟨s, _, rfl⟩ := List.mem_map.1 hx; rfl
theorem lvs_strip (a b : List Kn) (l : List Kn) : stripL (lvs a b l) = lvs a b l := freeL_strip (lvs_free a b l)
@[simp] theorem lvs_len (a b : List Kn) (l : List Kn) : (lvs a b l).length = l.length := by simp [lvs]
theorem lvs_ones (a b : List Kn) (l : List Kn) : ones (lvs a b l) = true := by simp [ones, lvs, lv, AVal.one]
theorem lvs_get {a b : List Kn} {l : List Kn} {i : Nat} (h : i < l.length) : (lvs a b l)[i]? = some (lv a b (kat l i)) := by
  unfold lvs kat
  rw [List.getElem?_map, List.getD_eq_getElem?_getD, List.getElem?_eq_getElem h]; rfl
/-- The tick before. -/
def wb (t : Nat) (w : Int) : Nat := t - w.toNat
/-- The first violation: lake and kind. -/
def vF (a b : List Kn) (L M : Lim) (l : List Kn) (t : Nat) : Option (Nat × Nat) :=
  match fe (vb a L (kat l t).1 (kat l (wb t L.2.2.2.2)).1) 4 0 with
  | some k => some (0, k)
  | none => match fe (vb b M (kat l t).2 (kat l (wb t M.2.2.2.2)).2) 4 0 with
    | some k => some (1, k)
    | none => none
def exR : Option Nat → XExit
  | none => .normal
  | some _ => .ret
def vV (t : Nat) : Option (Nat × Nat) → AVal
  | some (lake, kind) => .agg [.int .i64 t, .int .i64 lake, .int .i64 kind]
  | none => .agg [.int .i64 0, .int .i64 0, .int .i64 0]
section
variable {X : FuncId → Option XFunc} (hX : VVioCode X)
include hX
theorem z86 {a b : List Kn} {u v : AVal} (p : PV a b u v) (ta : Tab a) (tb : Tab b) (r : Int) {s : Kn} (v1 : isVol a s.1 = true) (v2 : isVol b s.2 = true) (σ : Store) :
    Run X (.call 86) [.agg [u, v, .int .i64 r], .agg [.int .i64 s.1, .int .i64 s.2]] σ = some (.ret, [lv a b s], σ) := by
  have ha := p.ka; have hb := p.kb
  have t1 := t68 hX.runs.run.pair.tab ha ta v1; have t2 := t68 hX.runs.run.pair.tab hb tb v2
  have e1 : ∀ l x, AVal.agg [.int .i64 (levR l x).1, .int .i64 (sNum x (kat l (vix l x - 1)).2 (kat l (vix l x - 1)).1 (kat l (vix l x)).1 % ((kat l (vix l x)).2 - (kat l (vix l x - 1)).2)), .int .i64 ((kat l (vix l x)).2 - (kat l (vix l x - 1)).2)] = .agg [.int .i64 (mx l x).1, .int .i64 (mx l x).2.1, .int .i64 (mx l x).2.2] := fun l x => rfl
  rw [e1] at t1 t2
  refine call2 (v := lv a b s) hX.h86 (by simp [AVal.strip, stripL, AVal.free, freeL, ha.strip, ha.free, hb.strip, hb.free]) rfl (by decide) (fun tm hl h0 h1 => ?_) rfl σ
  simp only [AVal.strip, stripL, ha.strip, hb.strip] at h0 h1
  replace hl : tm.length = 23 := hl
  have w0 : IntKind.i64.wrap (0 + 1) = 1 := rfl
  have w1 : IntKind.i64.wrap (1 + 1) = 2 := rfl
  have w0' : IntKind.i64.wrap 1 = 1 := rfl
  have w1' : IntKind.i64.wrap 2 = 2 := rfl
  unfold Gives
  simp [xf86, xf86l0, Run_loop, hl, h0, h1, t1, t2, lv, w0, w1, w0', w1', idx, ha.one, ha.strip, ha.free, hb.one, hb.strip, hb.free, Store.empty, Store.new, Store.put, Store.get, look, putL, setR, Store.only, Store.merge, touch, wrote, upTo, isIn, okRec, hits, capsOf, xcaps, stripL, AVal.strip, freeL, AVal.free, fillR, chunks, mkV, List.filter]
omit hX in
theorem inner87 {f : Nat → Bool} {lim past : AVal} {t i : Nat} {σ : Store} (g : σ.get 1 = some (.cells [.int .i64 0, .int .i64 0, .int .i64 0])) (tm : List AVal) (hl : tm.length = 54) (h1 : XOpd.eval tm (.t 1) = past) (h2 : XOpd.eval tm (.t 2) = .ptr 0 0) (h4 : XOpd.eval tm (.t 4) = .ptr 1 0) (h6 : XOpd.eval tm (.t 6) = .int .i64 t) (h7 : XOpd.eval tm (.t 7) = .int .i64 i) (h17 : XOpd.eval tm (.t 17) = lim) (h18 : XOpd.eval tm (.t 18) = .int .i64 i) (h41 : XOpd.eval tm (.t 41) = .agg [.bool (f 0), .bool (f 1), .bool (f 2), .bool (f 3)]) (h42 : XOpd.eval tm (.t 42) = .int .i64 0) :
    Ends (Run X (.code (.loop xf87l0)) tm σ) (exO 2 (fe f 4 0)) fun tm' σ' => tm'.length = 54 ∧ XOpd.eval tm' (.t 4) = .ptr 1 0 ∧ (fe f 4 0 = none → σ' = σ ∧ XOpd.eval tm' (.t 1) = past ∧ XOpd.eval tm' (.t 2) = .ptr 0 0 ∧ XOpd.eval tm' (.t 6) = .int .i64 t ∧ XOpd.eval tm' (.t 17) = lim ∧ XOpd.eval tm' (.t 18) = .int .i64 i) ∧
      ∀ k, fe f 4 0 = some k → XOpd.eval tm' (.t 5) = .bool true ∧ σ'.get 1 = some (.cells [.int .i64 t, .int .i64 i, .int .i64 k]) := by
  have w0 : IntKind.i64.wrap (0 + 1) = 1 := rfl
  have w1 : IntKind.i64.wrap (1 + 1) = 2 := rfl
  have w2 : IntKind.i64.wrap (2 + 1) = 3 := rfl
  have w3 : IntKind.i64.wrap (3 + 1) = 4 := rfl
  have w0' : IntKind.i64.wrap 1 = 1 := rfl
  have w1' : IntKind.i64.wrap 2 = 2 := rfl
  have w2' : IntKind.i64.wrap 3 = 3 := rfl
  have w3' : IntKind.i64.wrap 4 = 4 := rfl
  cases c0 : f 0
  · cases c1 : f 1
    · cases c2 : f 2
      · cases c3 : f 3
        · have hf : fe f 4 0 = none := by simp [fe, c0, c1, c2, c3]
          rw [hf]
          simp [xf87l0, Run_loop, exO, hl, h1, h2, h4, h6, h7, h17, h18, h41, h42, c0, c1, c2, c3, g, w0, w1, w2, w3, w0', w1', w2', w3', idx, put_next, new_next, Store.get_new, Store.get_put, put_get, setR, only_get, merge_get', only_next, merge_next, upTo_self, upTo_one, merge_only, touch, wrote, isIn, okRec, hits, capsOf, xcaps, stripL, AVal.strip, freeL, AVal.free, fillR, chunks, mkV]
        · have hf : fe f 4 0 = some 3 := by simp [fe, c0, c1, c2, c3]
          rw [hf]
          simp [xf87l0, Run_loop, exO, hl, h1, h2, h4, h6, h7, h17, h18, h41, h42, c0, c1, c2, c3, g, w0, w1, w2, w3, w0', w1', w2', w3', idx, put_next, new_next, Store.get_new, Store.get_put, put_get, setR, only_get, merge_get', only_next, merge_next, upTo_self, upTo_one, merge_only, touch, wrote, isIn, okRec, hits, capsOf, xcaps, stripL, AVal.strip, freeL, AVal.free, fillR, chunks, mkV]
      · have hf : fe f 4 0 = some 2 := by simp [fe, c0, c1, c2]
        rw [hf]
        simp [xf87l0, Run_loop, exO, hl, h1, h2, h4, h6, h7, h17, h18, h41, h42, c0, c1, c2, g, w0, w1, w2, w3, w0', w1', w2', w3', idx, put_next, new_next, Store.get_new, Store.get_put, put_get, setR, only_get, merge_get', only_next, merge_next, upTo_self, upTo_one, merge_only, touch, wrote, isIn, okRec, hits, capsOf, xcaps, stripL, AVal.strip, freeL, AVal.free, fillR, chunks, mkV]
    · have hf : fe f 4 0 = some 1 := by simp [fe, c0, c1]
      rw [hf]
      simp [xf87l0, Run_loop, exO, hl, h1, h2, h4, h6, h7, h17, h18, h41, h42, c0, c1, g, w0, w1, w2, w3, w0', w1', w2', w3', idx, put_next, new_next, Store.get_new, Store.get_put, put_get, setR, only_get, merge_get', only_next, merge_next, upTo_self, upTo_one, merge_only, touch, wrote, isIn, okRec, hits, capsOf, xcaps, stripL, AVal.strip, freeL, AVal.free, fillR, chunks, mkV]
  · have hf : fe f 4 0 = some 0 := by simp [fe, c0]
    rw [hf]
    simp [xf87l0, Run_loop, exO, hl, h1, h2, h4, h6, h7, h17, h18, h41, h42, c0, g, w0, w1, w2, w3, w0', w1', w2', w3', idx, put_next, new_next, Store.get_new, Store.get_put, put_get, setR, only_get, merge_get', only_next, merge_next, upTo_self, upTo_one, merge_only, touch, wrote, isIn, okRec, hits, capsOf, xcaps, stripL, AVal.strip, freeL, AVal.free, fillR, chunks, mkV]
omit hX
def I87 (u v : AVal) (r s1 s2 : Int) (L M : Lim) (past : AVal) (t i : Nat) (tm : List AVal) (σ : Store) : Prop :=
  tm.length = 54 ∧ XOpd.eval tm (.t 1) = past ∧ XOpd.eval tm (.t 2) = .ptr 0 0 ∧ XOpd.eval tm (.t 4) = .ptr 1 0 ∧ XOpd.eval tm (.t 6) = .int .i64 t ∧ XOpd.eval tm (.t 17) = .agg (L.cells ++ M.cells) ∧ XOpd.eval tm (.t 18) = .int .i64 i ∧
  σ.get 0 = some (.cells ([u, v, .int .i64 r, .int .i64 s1, .int .i64 s2] ++ (L.cells ++ M.cells))) ∧ σ.get 1 = some (.cells [.int .i64 0, .int .i64 0, .int .i64 0]) ∧ 2 ≤ σ.next
include hX
set_option maxHeartbeats 1000000 in
theorem round87 {a b : List Kn} {u v : AVal} (ta : Tab a) (tb : Tab b) {r s1 s2 : Int} {L M : Lim} (oL : LimOk a L) (oM : LimOk b M) {xs : List Kn} (hv : ∀ i, i < xs.length → isVol a (kat xs i).1 = true ∧ isVol b (kat xs i).2 = true) {t : Nat} (ht : t + 1 = xs.length) (hn : xs.length ≤ 1000000) {i : Nat} (hi : i < 2) {tm : List AVal} {σ : Store} (h : I87 u v r s1 s2 L M (.list 6 (lvs a b xs) none) t i tm σ) {o : Option Nat}
    (ho : o = if i = 0 then fe (vb a L (kat xs t).1 (kat xs (wb t L.2.2.2.2)).1) 4 0 else fe (vb b M (kat xs t).2 (kat xs (wb t M.2.2.2.2)).2) 4 0) :
    Ends (Run X (.code xf87l1) tm σ) (exR o) fun tm' σ' => (o = none → I87 u v r s1 s2 L M (.list 6 (lvs a b xs) none) t (i + 1) tm' σ') ∧ ∀ k, o = some k → tm'.length = 54 ∧ XOpd.eval tm' (.t 4) = .ptr 1 0 ∧ XOpd.eval tm' (.t 5) = .bool true ∧ σ'.get 1 = some (.cells [.int .i64 t, .int .i64 i, .int .i64 k]) := by
  obtain ⟨hl, h1, h2, h4, h6, h17, h18, g0, g1, nx⟩ := h
  obtain ⟨N, hN⟩ : ∃ N, σ.next = N + 2 := ⟨σ.next - 2, by omega⟩
  have hw : IntKind.i64.wrap ((i : Int) + 1) = ((i + 1 : Nat) : Int) := by rw [wrap_i64] <;> omega
  have q1 := lvs_get (a := a) (b := b) (l := xs) (i := t) (by omega)
  have hc : i = 0 ∨ i = 1 := by omega
  rcases hc with rfl | rfl
  · have kw : wb t L.2.2.2.2 < xs.length := by unfold wb; omega
    have q2 := lvs_get (a := a) (b := b) (l := xs) (i := wb t L.2.2.2.2) kw
    have e1 : IntKind.i64.wrap ((t : Int) - L.2.2.2.2) = (t : Int) - L.2.2.2.2 := by have := oL.w0; have := oL.w1; rw [wrap_i64] <;> omega
    have e2 : (if L.2.2.2.2 < (t : Int) then (t : Int) - L.2.2.2.2 else 0) = ((wb t L.2.2.2.2 : Nat) : Int) := by have := oL.w0; unfold wb; split <;> omega
    have z120 := z120 hX ta oL (hv t (by omega)).1 (hv _ kw).1
    have hI := fun (σ : Store) g tm y1 y2 y3 y4 y5 y6 y7 y8 y9 y10 => out_of (inner87 (X := X) (f := vb a L (kat xs t).1 (kat xs (wb t L.2.2.2.2)).1) (lim := .agg (L.cells ++ M.cells)) (past := .list 6 (lvs a b xs) none) (t := t) (i := 0) (σ := σ) g tm y1 y2 y3 y4 y5 y6 y7 y8 y9 y10)
    rw [if_pos rfl] at ho
    rw [← ho] at hI
    simp only [Rdg.enc, Lim.cells, List.cons_append, List.nil_append, lv] at z120 h17 g0 q1 q2 hI
    cases o with
    | none =>
      simp only [exO, true_implies, reduceCtorEq, false_implies, implies_true, and_true, exR] at hI ⊢
      simp (maxDischargeDepth := 24) [xf87l1, I87, hl, h1, h2, h4, h6, h17, h18, g0, g1, hN, q1, q2, e1, e2, z120, hI, hw, Lim.cells, lv, put_next, new_next, Store.get_new, Store.get_put, put_get, setR, only_get, merge_get', only_next, merge_next, upTo_self, upTo_one, merge_only, touch, wrote, isIn, okRec, hits, capsOf, xcaps, stripL, AVal.strip, freeL, AVal.free, fillR, chunks, mkV]
    | some k =>
      have hI := fun (σ : Store) g tm y1 y2 y3 y4 y5 y6 y7 y8 y9 y10 => And.intro (hI σ g tm y1 y2 y3 y4 y5 y6 y7 y8 y9 y10).1 (And.intro (hI σ g tm y1 y2 y3 y4 y5 y6 y7 y8 y9 y10).2.1 (And.intro (hI σ g tm y1 y2 y3 y4 y5 y6 y7 y8 y9 y10).2.2.1 ((hI σ g tm y1 y2 y3 y4 y5 y6 y7 y8 y9 y10).2.2.2.2 k rfl)))
      simp only [exO, exR] at hI ⊢
      simp (maxDischargeDepth := 24) [xf87l1, I87, hl, h1, h2, h4, h6, h17, h18, g0, g1, hN, q1, q2, e1, e2, z120, hI, hw, Lim.cells, lv, put_next, new_next, Store.get_new, Store.get_put, put_get, setR, only_get, merge_get', only_next, merge_next, upTo_self, upTo_one, merge_only, touch, wrote, isIn, okRec, hits, capsOf, xcaps, stripL, AVal.strip, freeL, AVal.free, fillR, chunks, mkV]
  · have kw : wb t M.2.2.2.2 < xs.length := by unfold wb; omega
    have q2 := lvs_get (a := a) (b := b) (l := xs) (i := wb t M.2.2.2.2) kw
    have e1 : IntKind.i64.wrap ((t : Int) - M.2.2.2.2) = (t : Int) - M.2.2.2.2 := by have := oM.w0; have := oM.w1; rw [wrap_i64] <;> omega
    have e2 : (if M.2.2.2.2 < (t : Int) then (t : Int) - M.2.2.2.2 else 0) = ((wb t M.2.2.2.2 : Nat) : Int) := by have := oM.w0; unfold wb; split <;> omega
    have z120 := z120 hX tb oM (hv t (by omega)).2 (hv _ kw).2
    have hI := fun (σ : Store) g tm y1 y2 y3 y4 y5 y6 y7 y8 y9 y10 => out_of (inner87 (X := X) (f := vb b M (kat xs t).2 (kat xs (wb t M.2.2.2.2)).2) (lim := .agg (L.cells ++ M.cells)) (past := .list 6 (lvs a b xs) none) (t := t) (i := 1) (σ := σ) g tm y1 y2 y3 y4 y5 y6 y7 y8 y9 y10)
    rw [if_neg (by decide)] at ho
    rw [← ho] at hI
    simp only [Rdg.enc, Lim.cells, List.cons_append, List.nil_append, lv] at z120 h17 g0 q1 q2 hI
    cases o with
    | none =>
      simp only [exO, true_implies, reduceCtorEq, false_implies, implies_true, and_true, exR] at hI ⊢
      simp (maxDischargeDepth := 24) [xf87l1, I87, hl, h1, h2, h4, h6, h17, h18, g0, g1, hN, q1, q2, e1, e2, z120, hI, hw, Lim.cells, lv, put_next, new_next, Store.get_new, Store.get_put, put_get, setR, only_get, merge_get', only_next, merge_next, upTo_self, upTo_one, merge_only, touch, wrote, isIn, okRec, hits, capsOf, xcaps, stripL, AVal.strip, freeL, AVal.free, fillR, chunks, mkV]
    | some k =>
      have hI := fun (σ : Store) g tm y1 y2 y3 y4 y5 y6 y7 y8 y9 y10 => And.intro (hI σ g tm y1 y2 y3 y4 y5 y6 y7 y8 y9 y10).1 (And.intro (hI σ g tm y1 y2 y3 y4 y5 y6 y7 y8 y9 y10).2.1 (And.intro (hI σ g tm y1 y2 y3 y4 y5 y6 y7 y8 y9 y10).2.2.1 ((hI σ g tm y1 y2 y3 y4 y5 y6 y7 y8 y9 y10).2.2.2.2 k rfl)))
      simp only [exO, exR] at hI ⊢
      simp (maxDischargeDepth := 24) [xf87l1, I87, hl, h1, h2, h4, h6, h17, h18, g0, g1, hN, q1, q2, e1, e2, z120, hI, hw, Lim.cells, lv, put_next, new_next, Store.get_new, Store.get_put, put_get, setR, only_get, merge_get', only_next, merge_next, upTo_self, upTo_one, merge_only, touch, wrote, isIn, okRec, hits, capsOf, xcaps, stripL, AVal.strip, freeL, AVal.free, fillR, chunks, mkV]
/-- What is violated at a tick: result and whether there is something. -/
def vR (t : Nat) (o : Option (Nat × Nat)) : AVal := .tup [vV t o, .bool o.isSome]
omit hX in
theorem vV_free (t : Nat) (o : Option (Nat × Nat)) : (vV t o).strip = vV t o ∧ (vV t o).free = true := by cases o <;> exact ⟨rfl, rfl⟩
theorem z87 {a b : List Kn} {u v : AVal} (p : PV a b u v) (ta : Tab a) (tb : Tab b) {r s1 s2 : Int} {L M : Lim} (oL : LimOk a L) (oM : LimOk b M) {xs : List Kn} (hv : ∀ i, i < xs.length → isVol a (kat xs i).1 = true ∧ isVol b (kat xs i).2 = true) {t : Nat} (ht : t + 1 = xs.length) (hn : xs.length ≤ 1000000) {w : AVal} (hw : w.strip = .list 6 (lvs a b xs) none) (σ : Store) :
    Run X (.call 87) [.agg ([u, v, .int .i64 r, .int .i64 s1, .int .i64 s2] ++ (L.cells ++ M.cells)), w] σ = some (.ret, [vR t (vF a b L M xs t)], σ) := by
  have ha := p.ka; have hb := p.kb
  have := call2 (X := X) (a := .agg ([u, v, .int .i64 r, .int .i64 s1, .int .i64 s2] ++ (L.cells ++ M.cells))) (b := w) (v := vR t (vF a b L M xs t)) hX.h87 (by simp [AVal.strip, stripL, AVal.free, freeL, ha.strip, ha.free, hb.strip, hb.free, Lim.cells]) (by rw [hw]; simp [AVal.free, lvs_free]) (by decide) (fun tm hl a0 a1 => ?_) (by simp [vR, AVal.strip, stripL, AVal.free, freeL, (vV_free _ _).1, (vV_free _ _).2]) σ
  · simpa [vR, AVal.strip, stripL, (vV_free _ _).1] using this
  rw [hw] at a1
  replace hl : tm.length = 54 := hl
  have e0 : xf87.body = .seq xf87.body.fst (.seq xf87.body.snd.fst (.seq (.seq xf87.body.snd.snd.fst.fst (.block 0 (.loop xf87l1))) xf87.body.snd.snd.snd)) := rfl
  have ew : IntKind.i64.wrap ((xs.length : Int) - 1) = (t : Int) := by rw [wrap_i64] <;> omega
  unfold Gives
  rw [e0, seq_left, seq_left, Run_seq, seq_left, Run_seq]
  have eP : Ends (Run X (.code (.seq (.seq xf87.body.fst xf87.body.snd.fst) xf87.body.snd.snd.fst.fst)) tm Store.empty) .normal fun tm σ => I87 u v r s1 s2 L M (.list 6 (lvs a b xs) none) t 0 tm σ := by
    simp only [AVal.strip, stripL, ha.strip, hb.strip, Lim.cells, List.cons_append, List.nil_append] at a0
    simp [I87, xf87, XCode.fst, XCode.snd, hl, a0, a1, ew, Lim.cells, ha.one, ha.strip, ha.free, hb.one, hb.strip, hb.free, Store.empty, Store.new, Store.put, Store.get, look, putL, setR, Store.only, Store.merge, touch, wrote, upTo, isIn, okRec, hits, capsOf, xcaps, stripL, AVal.strip, freeL, AVal.free, fillR, chunks, mkV, List.filter]
  obtain ⟨o1, o2⟩ := out_of eP
  rw [o1, thenC_normal, Run_block]
  generalize outT X _ tm Store.empty = tm1 at *
  generalize outS X _ tm Store.empty = σ1 at *
  unfold vF
  cases h0 : fe (vb a L (kat xs t).1 (kat xs (wb t L.2.2.2.2)).1) 4 0 with
  | some k =>
    have r0 := round87 hX (u := u) (v := v) ta tb (r := r) (s1 := s1) (s2 := s2) oL oM hv ht hn (i := 0) (by omega) o2 (o := some k) (by rw [if_pos rfl]; exact h0.symm)
    simp only [exR] at r0
    obtain ⟨q1, q2, q3⟩ := out_of r0
    obtain ⟨x1, x2, x3, x4⟩ := q3 k rfl
    rw [Run_loop, q1]
    simp [xf87, XCode.fst, XCode.snd, x1, x2, x3, x4, vR, vV, xresult, xrets]
  | none =>
    have r0 := round87 hX (u := u) (v := v) ta tb (r := r) (s1 := s1) (s2 := s2) oL oM hv ht hn (i := 0) (by omega) o2 (o := none) (by rw [if_pos rfl]; exact h0.symm)
    simp only [exR] at r0
    obtain ⟨q1, q2, q3⟩ := out_of r0
    have q2 := q2 trivial
    rw [Run_loop, q1, thenC_normal]
    generalize outT X _ tm1 σ1 = tm2 at *
    generalize outS X _ tm1 σ1 = σ2 at *
    cases h1 : fe (vb b M (kat xs t).2 (kat xs (wb t M.2.2.2.2)).2) 4 0 with
    | some k =>
      have r1 := round87 hX (u := u) (v := v) ta tb (r := r) (s1 := s1) (s2 := s2) oL oM hv ht hn (i := 1) (by omega) q2 (o := some k) (by rw [if_neg (by decide)]; exact h1.symm)
      simp only [exR] at r1
      obtain ⟨q1, q2, q3⟩ := out_of r1
      obtain ⟨x1, x2, x3, x4⟩ := q3 k rfl
      rw [Run_loop, q1]
      simp [xf87, XCode.fst, XCode.snd, x1, x2, x3, x4, vR, vV, xresult, xrets]
    | none =>
      have r1 := round87 hX (u := u) (v := v) ta tb (r := r) (s1 := s1) (s2 := s2) oL oM hv ht hn (i := 1) (by omega) q2 (o := none) (by rw [if_neg (by decide)]; exact h1.symm)
      simp only [exR] at r1
      obtain ⟨q1, q2, q3⟩ := out_of r1
      obtain ⟨hl, h1, h2, h4, h6, h17, h18, g0, g1, nx⟩ := q2 trivial
      rw [Run_loop, q1, thenC_normal]
      generalize outT X _ tm2 σ2 = tm3 at *
      generalize outS X _ tm2 σ2 = σ3 at *
      rw [Run_loop]
      simp [xf87l1, xf87, XCode.fst, XCode.snd, hl, h4, h18, g1, vR, vV, xresult, xrets, put_next, new_next, Store.get_new, Store.get_put, put_get, setR, only_get, merge_get', only_next, merge_next, upTo_self, upTo_one, merge_only, touch, wrote, isIn, okRec, hits, capsOf, xcaps, stripL, AVal.strip, freeL, AVal.free, fillR, chunks, mkV]
end
end Go.Proofs.YtbgjmclpahganaaGreat.Eng

/-
  VIOLATIONS, C: the end of a run.
-/
namespace Go.Proofs.YtbgjmclpahganaaGreat.Eng
set_option linter.unusedSimpArgs false
set_option linter.unusedVariables false

/-- The first violation at a tick of states. -/
def vG (a b : List Kn) (L M : Lim) (st : Nat → Kn) (t : Nat) : Option (Nat × Nat) :=
  match fe (vb a L (st t).1 (st (wb t L.2.2.2.2)).1) 4 0 with
  | some k => some (0, k)
  | none => match fe (vb b M (st t).2 (st (wb t M.2.2.2.2)).2) 4 0 with
    | some k => some (1, k)
    | none => none
theorem wb_le (t : Nat) (w : Int) : wb t w ≤ t := by unfold wb; omega
theorem vG_congr {a b : List Kn} {L M : Lim} {st st' : Nat → Kn} {t : Nat} (h : ∀ j, j ≤ t → st j = st' j) : vG a b L M st t = vG a b L M st' t := by
  unfold vG
  rw [h t (Nat.le_refl _), h _ (wb_le t _), h _ (wb_le t _)]
theorem vF_vG (a b : List Kn) (L M : Lim) (l : List Kn) (t : Nat) : vF a b L M l t = vG a b L M (kat l) t := rfl
/-- The states from the tick 0 on. -/
def pst (st : Nat → Kn) (n : Nat) : List Kn := (List.range (n + 1)).map st
@[simp] theorem pst_len (st : Nat → Kn) (n : Nat) : (pst st n).length = n + 1 := by simp [pst]
theorem pst_kat {st : Nat → Kn} {n j : Nat} (h : j ≤ n) : kat (pst st n) j = st j := by
  unfold kat pst
  rw [List.getD_eq_getElem?_getD, List.getElem?_map, List.getElem?_range (by omega)]; rfl
theorem pst_succ (st : Nat → Kn) (n : Nat) : pst st (n + 1) = pst st n ++ [st (n + 1)] := by
  unfold pst; rw [List.range_succ, List.map_append]; rfl
theorem vF_pst {a b : List Kn} {L M : Lim} {st : Nat → Kn} {n t : Nat} (h : t ≤ n) : vF a b L M (pst st n) t = vG a b L M st t := by
  rw [vF_vG]; exact vG_congr fun j hj => pst_kat (by omega)
def zero3 : AVal := .agg [.int .i64 0, .int .i64 0, .int .i64 0]
/-- How a run ends. -/
def endR (a b : List Kn) (r : Int) (s : Kn) (l : List Rdg) (L M : Lim) : Nat → Nat → Nat × AVal × Int
  | 0, i => (i, zero3, 12)
  | k + 1, i => if seA a b r (stN a b r s l i) (rat l i) ≠ 0 then (i, zero3, 22) else
    match vG a b L M (stN a b r s l) (i + 1) with
    | some q => (i, vV (i + 1) (some q), 0)
    | none => endR a b r s l L M k (i + 1)
theorem endR_skip {a b : List Kn} {r : Int} {s : Kn} {l : List Rdg} {L M : Lim} : ∀ (d k i : Nat), (∀ j, i ≤ j → j < i + d → seA a b r (stN a b r s l j) (rat l j) = 0 ∧ vG a b L M (stN a b r s l) (j + 1) = none) → endR a b r s l L M (d + k) i = endR a b r s l L M k (i + d)
  | 0, k, i, h => by simp
  | d + 1, k, i, h => by
    obtain ⟨h1, h2⟩ := h i (by omega) (by omega)
    have ih := endR_skip (a := a) (b := b) (r := r) (s := s) (l := l) (L := L) (M := M) d k (i + 1) (fun j j1 j2 => h j (by omega) (by omega))
    rw [show d + 1 + k = (d + k) + 1 by omega]
    simp only [endR, h1, h2, ne_eq, not_true_eq_false, if_false]
    rw [ih, show i + 1 + d = i + (d + 1) by omega]
def J52 (a b : List Kn) (u v : AVal) (r : Int) (s : Kn) (l : List Rdg) (L M : Lim) (tmR : List AVal) (i : Nat) (σ : Store) : Prop :=
  7 ≤ σ.next ∧ (∀ j, j < i → seA a b r (stN a b r s l j) (rat l j) = 0 ∧ vG a b L M (stN a b r s l) (j + 1) = none) ∧
  σ.get 0 = some (.cells ([u, v, .int .i64 r, .int .i64 s.1, .int .i64 s.2] ++ (L.cells ++ M.cells))) ∧ σ.get 1 = some (.cells [.int .i64 0]) ∧ σ.get 2 = some (.cells [.int .i64 0, .int .i64 0, .int .i64 0]) ∧ σ.get 3 = some (.cells [.int .i64 0]) ∧
  σ.get 4 = some (.tok 167 6 (i + 1)) ∧ σ.get 5 = some (.cells [.list 6 (lvs a b (pst (stN a b r s l) i)) (some 4)]) ∧ σ.get 6 = some (.oth (.loop .ready tmR [25, 26] xf52a0 xf52b0))
def E52 (a b : List Kn) (r : Int) (s : Kn) (l : List Rdg) (L M : Lim) (tmR : List AVal) (n : Nat) (σ : Store) : Prop :=
  (∀ j, j < n → seA a b r (stN a b r s l j) (rat l j) = 0 ∧ vG a b L M (stN a b r s l) (j + 1) = none) ∧
  (∃ v e cs, ((seA a b r (stN a b r s l n) (rat l n) ≠ 0 ∧ v = zero3 ∧ e = 22) ∨ (seA a b r (stN a b r s l n) (rat l n) = 0 ∧ ∃ q, vG a b L M (stN a b r s l) (n + 1) = some q ∧ v = vV (n + 1) (some q) ∧ e = 0)) ∧
    v = .agg cs ∧ cs.length = 3 ∧ cs.all AVal.one = true ∧ σ.get 1 = some (.cells [.int .i64 n]) ∧ σ.get 2 = some (.cells cs) ∧ σ.get 3 = some (.cells [.int .i64 e])) ∧ σ.get 6 = some (.oth (.loop (.done .ret) tmR [25, 26] xf52a0 xf52b0))
def Fr52 (tm : List AVal) : Prop := tm.length = 56 ∧ XOpd.eval tm (.t 2) = .ptr 0 0 ∧ XOpd.eval tm (.t 4) = .ptr 1 0 ∧ XOpd.eval tm (.t 5) = .ptr 2 0 ∧ XOpd.eval tm (.t 6) = .ptr 3 0 ∧ XOpd.eval tm (.t 7) = .ptr 5 0
theorem J52.far {a b : List Kn} {u v : AVal} {r : Int} {s : Kn} {l : List Rdg} {L M : Lim} {tmR : List AVal} {i : Nat} {σ τ : Store} (h : J52 a b u v r s l L M tmR i σ) (hg : ∀ k, k ≠ 7 → k < σ.next → τ.get k = σ.get k) (hn : σ.next ≤ τ.next) : J52 a b u v r s l L M tmR i τ := by
  obtain ⟨nx, ok, g0, g1, g2, g3, g4, g5, g6⟩ := h
  exact ⟨by omega, ok, by rw [hg 0 (by omega) (by omega)]; exact g0, by rw [hg 1 (by omega) (by omega)]; exact g1, by rw [hg 2 (by omega) (by omega)]; exact g2, by rw [hg 3 (by omega) (by omega)]; exact g3, by rw [hg 4 (by omega) (by omega)]; exact g4, by rw [hg 5 (by omega) (by omega)]; exact g5, by rw [hg 6 (by omega) (by omega)]; exact g6⟩
section
variable {X : FuncId → Option XFunc} (hX : VVioCode X)
include hX
set_option maxHeartbeats 4000000 in
theorem rnd52 {a b : List Kn} {u v : AVal} (p : PV a b u v) (ta : Tab a) (tb : Tab b) {r : Int} {s : Kn} (v1 : isVol a s.1 = true) (v2 : isVol b s.2 = true) {l : List Rdg} {L M : Lim} (oL : LimOk a L) (oM : LimOk b M) {tmR : List AVal} (fr : Fr52 tmR) {i : Nat} (hi : i < l.length) (hl1 : l.length ≤ 100000) {σ : Store} (hJ : J52 a b u v r s l L M tmR i σ) (hq : 7 < σ.next - 1) (hy : ∃ cs, σ.get (σ.next - 1) = some (.cells cs)) :
    ∃ bo σ', Run X (.round 6) [.agg (stA a b r (stN a b r s l i) (rat l i)), .int .i64 (seA a b r (stN a b r s l i) (rat l i))] σ = some (.ret, [.bool bo], σ') ∧
      (bo = true → seA a b r (stN a b r s l i) (rat l i) = 0 → J52 a b u v r s l L M tmR (i + 1) σ' ∧ σ'.get 7 = σ.get 7 ∧ σ'.get (σ.next - 1) = σ.get (σ.next - 1) ∧ σ.next ≤ σ'.next) ∧ ((bo = false ∨ seA a b r (stN a b r s l i) (rat l i) ≠ 0) → E52 a b r s l L M tmR i σ') := by
  obtain ⟨hnx, ok, g0, g1, g2, g3, g4, g5, g6⟩ := hJ
  obtain ⟨hln, h2, h4, h5, h6, h7⟩ := fr
  obtain ⟨N, hN⟩ : ∃ N, σ.next = N + 9 := ⟨σ.next - 9, by omega⟩
  obtain ⟨cy, hy⟩ := hy
  rw [show σ.next - 1 = N + 8 by omega] at *
  have ha := p.ka; have hb := p.kb
  have hin : roundIn σ 6 [.agg (stA a b r (stN a b r s l i) (rat l i)), .int .i64 (seA a b r (stN a b r s l i) (rat l i))] = some (putT (putT tmR (some 25) (.agg (stA a b r (stN a b r s l i) (rat l i)))) (some 26) (.int .i64 (seA a b r (stN a b r s l i) (rat l i))), xf52a0, xf52b0) := by
    unfold roundIn
    rw [g6]; rfl
  have iw : IntKind.i64.wrap (((i + 1 : Nat) : Int) - 1) = (i : Int) := by rw [wrap_i64] <;> omega
  have iw' : IntKind.i64.wrap ((i : Int) + 1 - 1) = (i : Int) := by rw [wrap_i64] <;> omega
  have iw'' : IntKind.i64.wrap (i : Int) = (i : Int) := by rw [wrap_i64] <;> omega
  simp only [Lim.cells, List.cons_append, List.nil_append] at g0
  by_cases hz : seA a b r (stN a b r s l i) (rat l i) = 0
  · have hsa := stA_ok hz
    obtain ⟨w1, w2⟩ := stN_vol ta tb v1 v2 (i := i + 1) (l := l) (r := r) (fun j hj => by
      by_cases e : j = i
      · subst e; exact hz
      · exact (ok j (by omega)).1)
    have z86 := z86 hX p ta tb r w1 w2
    have hps := pst_succ (stN a b r s l) i
    have z87 := fun tok => z87 hX p ta tb (r := r) (s1 := s.1) (s2 := s.2) oL oM (xs := pst (stN a b r s l) (i + 1)) (fun j hj => by
      simp at hj
      rw [pst_kat (by omega)]
      exact stN_vol ta tb v1 v2 (i := j) (l := l) (r := r) (fun m hm => by
        by_cases e : m = i
        · subst e; exact hz
        · exact (ok m (by omega)).1)) (t := i + 1) (by simp) (by simp; omega) (w := .list 6 (lvs a b (pst (stN a b r s l) (i + 1))) tok) (by simp [AVal.strip, lvs_strip])
    rw [vF_pst (Nat.le_refl _)] at z87
    have hlv : lvs a b (pst (stN a b r s l) (i + 1)) = lvs a b (pst (stN a b r s l) i) ++ [lv a b (stN a b r s l (i + 1))] := by rw [hps]; simp [lvs]
    rw [hlv] at z87
    have hst : stN a b r s l (i + 1) = nx a b r (stN a b r s l i) (rat l i) := rfl
    rw [hz, hsa] at hin ⊢
    rw [hst] at z86
    have eA : Ends (Run X (.code xf52a0) (putT (putT tmR (some 25) (.agg [.int .i64 (nx a b r (stN a b r s l i) (rat l i)).1, .int .i64 (nx a b r (stN a b r s l i) (rat l i)).2, .int .i64 (evN a b r (stN a b r s l i)), .int .i64 (spN a b r (stN a b r s l i) (rat l i))])) (some 26) (.int .i64 0)) σ) .normal fun tm σ1 => tm.length = 56 ∧ XOpd.eval tm (.t 2) = .ptr 0 0 ∧ XOpd.eval tm (.t 4) = .ptr 1 0 ∧ XOpd.eval tm (.t 5) = .ptr 2 0 ∧ XOpd.eval tm (.t 6) = .ptr 3 0 ∧ XOpd.eval tm (.t 7) = .ptr 5 0 ∧ XOpd.eval tm (.t 8) = .ptr (N + 9) 0 ∧ XOpd.eval tm (.t 9) = .int .i64 0 ∧
        σ1 = (σ.new (.cells [.int .i64 0, .int .i64 0, .int .i64 0, .int .i64 0])).put (N + 9) (.cells [.int .i64 (nx a b r (stN a b r s l i) (rat l i)).1, .int .i64 (nx a b r (stN a b r s l i) (rat l i)).2, .int .i64 (evN a b r (stN a b r s l i)), .int .i64 (spN a b r (stN a b r s l i) (rat l i))]) := by
      simp [xf52a0, hln, h2, h4, h5, h6, h7, hN, put_next, new_next, Store.get_new, Store.get_put, put_get, setR, only_get, merge_get', only_next, merge_next, upTo_self, upTo_one, merge_only, touch, wrote, isIn, okRec, hits, capsOf, xcaps, stripL, AVal.strip, freeL, AVal.free, fillR, chunks, mkV]
    obtain ⟨o1, o2, o3, o4, o5, o6, o7, o8, o9, o10⟩ := out_of eA
    generalize outT X xf52a0 _ σ = tm1 at *
    generalize outS X xf52a0 _ σ = σ1 at *
    have hmid : roundMid σ1 6 = some (σ1.put 6 (.oth (.loop .busy tmR [25, 26] xf52a0 xf52b0))) := by
      unfold roundMid
      rw [o10, Store.get_put, Mem.put_ne _ (by omega), Store.get_new, Mem.put_ne _ (by omega), g6]
    have b1 : (i + 1 + 1) * 48 ≤ 1000000000000 := by omega
    have b2 : i + 1 + 1 ≤ 1000000000000 := by omega
    have b2' : i + 1 ≤ 999999999999 := by omega
    have b2'' : i ≤ 999999999998 := by omega
    cases hv : vG a b L M (stN a b r s l) (i + 1) with
    | none =>
      rw [hv] at z87
      simp only [vR, vV, Option.isSome, Lim.cells, List.cons_append, List.nil_append, lv, hst] at z87
      simp only [lv, hst] at hlv z86
      have eB : Ends (Run X (.code xf52b0) tm1 (σ1.put 6 (.oth (.loop .busy tmR [25, 26] xf52a0 xf52b0)))) .normal fun _ σ3 => N + 9 ≤ σ3.next ∧ σ3.get 0 = σ.get 0 ∧ σ3.get 1 = σ.get 1 ∧ σ3.get 2 = σ.get 2 ∧ σ3.get 3 = σ.get 3 ∧ σ3.get 4 = some (.tok 167 6 (i + 1 + 1)) ∧ σ3.get 5 = some (.cells [.list 6 (lvs a b (pst (stN a b r s l) (i + 1))) (some 4)]) ∧ σ3.get 6 = some (.oth (.loop .busy tmR [25, 26] xf52a0 xf52b0)) ∧ σ3.get 7 = σ.get 7 ∧ σ3.get (N + 8) = σ.get (N + 8) := by
        rw [o10, hlv]
        generalize (NObj.oth (.loop .busy tmR [25, 26] xf52a0 xf52b0)) = ob
        simp [xf52b0, o2, o3, o4, o5, o6, o7, o8, o9, g0, g1, g2, g3, g4, g5, hN, iw, iw', iw'', b1, b2, b2', b2'', z86, z87, xappend, ones, AVal.one, ha.one, ha.strip, ha.free, hb.one, hb.strip, hb.free, put_next, new_next, Store.get_new, Store.get_put, put_get, setR, only_get, merge_get', only_next, merge_next, upTo_self, upTo_one, merge_only, touch, wrote, isIn, okRec, hits, capsOf, xcaps, stripL, AVal.strip, freeL, AVal.free, fillR, chunks, mkV]
      obtain ⟨p1, p2, q0, q1, q2, q3, q4, q5, q6, q7, q8⟩ := out_of eB
      generalize outT X xf52b0 _ _ = tm3 at *
      generalize outS X xf52b0 _ _ = σ3 at *
      have hout : roundOut σ3 6 .normal = some (σ3.put 6 (.oth (.loop .ready tmR [25, 26] xf52a0 xf52b0))) := by
        unfold roundOut
        rw [q6]; rfl
      refine ⟨true, _, Run_round hin o1 hmid p1 hout, fun _ _ => ⟨⟨?_, ?_, ?_, ?_, ?_, ?_, ?_, ?_, ?_⟩, ?_, ?_, ?_⟩, fun h => absurd h (by simp)⟩
      · show 7 ≤ σ3.next; omega
      · intro j hj
        by_cases e : j = i
        · subst e; exact ⟨hz, hv⟩
        · exact ok j (by omega)
      · rw [Store.get_put, Mem.put_ne _ (by decide), q0]; simpa [Lim.cells] using g0
      · rw [Store.get_put, Mem.put_ne _ (by decide), q1]; exact g1
      · rw [Store.get_put, Mem.put_ne _ (by decide), q2]; exact g2
      · rw [Store.get_put, Mem.put_ne _ (by decide), q3]; exact g3
      · rw [Store.get_put, Mem.put_ne _ (by decide), q4]
      · rw [Store.get_put, Mem.put_ne _ (by decide), q5]
      · rw [Store.get_put, Mem.put_self]
      · rw [Store.get_put, Mem.put_ne _ (by decide)]; exact q7
      · rw [Store.get_put, Mem.put_ne _ (by omega)]; exact q8
      · show σ.next ≤ σ3.next; omega
    | some q =>
      obtain ⟨la, kd⟩ := q
      rw [hv] at z87
      simp only [vR, vV, Option.isSome, Lim.cells, List.cons_append, List.nil_append, lv, hst] at z87
      simp only [lv, hst] at hlv z86
      have eB : Ends (Run X (.code xf52b0) tm1 (σ1.put 6 (.oth (.loop .busy tmR [25, 26] xf52a0 xf52b0)))) .ret fun _ σ3 => σ3.get 1 = some (.cells [.int .i64 i]) ∧ σ3.get 2 = some (.cells [.int .i64 ((i + 1 : Nat) : Int), .int .i64 la, .int .i64 kd]) ∧ σ3.get 3 = some (.cells [.int .i64 0]) ∧ σ3.get 6 = some (.oth (.loop .busy tmR [25, 26] xf52a0 xf52b0)) := by
        rw [o10]
        generalize (NObj.oth (.loop .busy tmR [25, 26] xf52a0 xf52b0)) = ob
        simp [xf52b0, o2, o3, o4, o5, o6, o7, o8, o9, g0, g1, g2, g3, g4, g5, hN, iw, iw', iw'', b1, b2, b2', b2'', z86, z87, xappend, ones, AVal.one, ha.one, ha.strip, ha.free, hb.one, hb.strip, hb.free, put_next, new_next, Store.get_new, Store.get_put, put_get, setR, only_get, merge_get', only_next, merge_next, upTo_self, upTo_one, merge_only, touch, wrote, isIn, okRec, hits, capsOf, xcaps, stripL, AVal.strip, freeL, AVal.free, fillR, chunks, mkV]
      obtain ⟨p1, q1, q2, q3, q6⟩ := out_of eB
      generalize outT X xf52b0 _ _ = tm3 at *
      generalize outS X xf52b0 _ _ = σ3 at *
      have hout : roundOut σ3 6 .ret = some (σ3.put 6 (.oth (.loop (.done .ret) tmR [25, 26] xf52a0 xf52b0))) := by
        unfold roundOut
        rw [q6]; rfl
      refine ⟨false, _, Run_round hin o1 hmid p1 hout, (fun h => by cases h), fun _ => ⟨ok, ⟨vV (i + 1) (some (la, kd)), 0, _, .inr ⟨hz, (la, kd), hv, rfl, rfl⟩, rfl, rfl, rfl, ?_, ?_, ?_⟩, ?_⟩⟩
      · rw [Store.get_put, Mem.put_ne _ (by decide)]; exact q1
      · rw [Store.get_put, Mem.put_ne _ (by decide)]; exact q2
      · rw [Store.get_put, Mem.put_ne _ (by decide)]; exact q3
      · rw [Store.get_put, Mem.put_self]
  · have h22 := (seA_cases a b r (stN a b r s l i) (rat l i)).resolve_left hz
    have hsa := stA_no hz
    rw [hsa] at hin ⊢
    rw [h22] at hin
    have eA : Ends (Run X (.code xf52a0) (putT (putT tmR (some 25) (.agg [.int .i64 0, .int .i64 0, .int .i64 0, .int .i64 0])) (some 26) (.int .i64 22)) σ) .normal fun tm σ1 => tm.length = 56 ∧ XOpd.eval tm (.t 2) = .ptr 0 0 ∧ XOpd.eval tm (.t 4) = .ptr 1 0 ∧ XOpd.eval tm (.t 5) = .ptr 2 0 ∧ XOpd.eval tm (.t 6) = .ptr 3 0 ∧ XOpd.eval tm (.t 7) = .ptr 5 0 ∧ XOpd.eval tm (.t 8) = .ptr (N + 9) 0 ∧ XOpd.eval tm (.t 9) = .int .i64 22 ∧
        σ1 = (σ.new (.cells [.int .i64 0, .int .i64 0, .int .i64 0, .int .i64 0])).put (N + 9) (.cells [.int .i64 0, .int .i64 0, .int .i64 0, .int .i64 0]) := by
      simp [xf52a0, hln, h2, h4, h5, h6, h7, hN, put_next, new_next, Store.get_new, Store.get_put, put_get, setR, only_get, merge_get', only_next, merge_next, upTo_self, upTo_one, merge_only, touch, wrote, isIn, okRec, hits, capsOf, xcaps, stripL, AVal.strip, freeL, AVal.free, fillR, chunks, mkV]
    obtain ⟨o1, o2, o3, o4, o5, o6, o7, o8, o9, o10⟩ := out_of eA
    generalize outT X xf52a0 _ σ = tm1 at *
    generalize outS X xf52a0 _ σ = σ1 at *
    have hmid : roundMid σ1 6 = some (σ1.put 6 (.oth (.loop .busy tmR [25, 26] xf52a0 xf52b0))) := by
      unfold roundMid
      rw [o10, Store.get_put, Mem.put_ne _ (by omega), Store.get_new, Mem.put_ne _ (by omega), g6]
    have eB : Ends (Run X (.code xf52b0) tm1 (σ1.put 6 (.oth (.loop .busy tmR [25, 26] xf52a0 xf52b0)))) .ret fun _ σ3 => σ3.get 1 = some (.cells [.int .i64 i]) ∧ σ3.get 2 = some (.cells [.int .i64 0, .int .i64 0, .int .i64 0]) ∧ σ3.get 3 = some (.cells [.int .i64 22]) ∧ σ3.get 6 = some (.oth (.loop .busy tmR [25, 26] xf52a0 xf52b0)) := by
      rw [o10]
      generalize (NObj.oth (.loop .busy tmR [25, 26] xf52a0 xf52b0)) = ob
      simp [xf52b0, o2, o3, o4, o5, o6, o7, o8, o9, g0, g1, g2, g3, g4, g5, hN, iw, iw', iw'', ha.one, ha.strip, ha.free, hb.one, hb.strip, hb.free, put_next, new_next, Store.get_new, Store.get_put, put_get, setR, only_get, merge_get', only_next, merge_next, upTo_self, upTo_one, merge_only, touch, wrote, isIn, okRec, hits, capsOf, xcaps, stripL, AVal.strip, freeL, AVal.free, fillR, chunks, mkV]
    obtain ⟨p1, q1, q2, q3, q6⟩ := out_of eB
    generalize outT X xf52b0 _ _ = tm3 at *
    generalize outS X xf52b0 _ _ = σ3 at *
    have hout : roundOut σ3 6 .ret = some (σ3.put 6 (.oth (.loop (.done .ret) tmR [25, 26] xf52a0 xf52b0))) := by
      unfold roundOut
      rw [q6]; rfl
    rw [← h22] at hin
    refine ⟨false, _, Run_round hin (by rw [h22]; exact o1) hmid p1 hout, (fun h => by cases h), fun _ => ⟨ok, ⟨zero3, 22, _, .inl ⟨hz, rfl, rfl⟩, rfl, rfl, rfl, ?_, ?_, ?_⟩, ?_⟩⟩
    · rw [Store.get_put, Mem.put_ne _ (by decide)]; exact q1
    · rw [Store.get_put, Mem.put_ne _ (by decide)]; exact q2
    · rw [Store.get_put, Mem.put_ne _ (by decide)]; exact q3
    · rw [Store.get_put, Mem.put_self]
end
end Go.Proofs.YtbgjmclpahganaaGreat.Eng

/-
  VIOLATIONS, D: the end of a run, whole.
-/
namespace Go.Proofs.YtbgjmclpahganaaGreat.Eng
set_option linter.unusedSimpArgs false
set_option linter.unusedVariables false
def endV (q : Nat × AVal × Int) : AVal := .tup [.int .i64 q.1, q.2.1, .int .i64 q.2.2]
theorem endR_free {a b : List Kn} {r : Int} {s : Kn} {l : List Rdg} {L M : Lim} : ∀ (k i : Nat), (endR a b r s l L M k i).2.1.strip = (endR a b r s l L M k i).2.1 ∧ (endR a b r s l L M k i).2.1.free = true
  | 0, i => ⟨rfl, rfl⟩
  | k + 1, i => by
    simp only [endR]
    split
    · exact ⟨rfl, rfl⟩
    · split
      · rename_i q _; obtain ⟨x, y⟩ := q; exact ⟨rfl, rfl⟩
      · exact endR_free k (i + 1)
theorem E52.end {a b : List Kn} {r : Int} {s : Kn} {l : List Rdg} {L M : Lim} {tmR : List AVal} {n : Nat} {σ : Store} (hn : n < l.length) (h : E52 a b r s l L M tmR n σ) : ∃ cs, (endR a b r s l L M l.length 0).2.1 = .agg cs ∧ cs.length = 3 ∧ cs.all AVal.one = true ∧ σ.get 1 = some (.cells [.int .i64 (endR a b r s l L M l.length 0).1]) ∧ σ.get 2 = some (.cells cs) ∧ σ.get 3 = some (.cells [.int .i64 (endR a b r s l L M l.length 0).2.2]) := by
  obtain ⟨ok, ⟨v, e, cs, h1, rfl, h3, h4, h5, h6, h7⟩, _⟩ := h
  have hs := endR_skip (a := a) (b := b) (r := r) (s := s) (l := l) (L := L) (M := M) n (l.length - n) 0 (fun j _ j2 => ok j (by omega))
  rw [show n + (l.length - n) = l.length by omega, Nat.zero_add] at hs
  obtain ⟨k, hk⟩ : ∃ k, l.length - n = k + 1 := ⟨l.length - n - 1, by omega⟩
  rw [hs, hk]
  refine ⟨cs, ?_⟩
  rcases h1 with ⟨hz, hv, rfl⟩ | ⟨hz, q, hq, hv, rfl⟩
  · simp only [endR, hz, ne_eq, not_false_eq_true, if_true]
    exact ⟨hv.symm, h3, h4, h5, h6, h7⟩
  · simp only [endR, hz, ne_eq, not_true_eq_false, if_false, hq]
    exact ⟨hv.symm, h3, h4, h5, h6, h7⟩
section
variable {X : FuncId → Option XFunc} (hX : VVioCode X)
include hX
set_option maxHeartbeats 1000000 in
theorem range52 {a b : List Kn} {u v : AVal} (p : PV a b u v) (ta : Tab a) (tb : Tab b) {r : Int} (r0 : 0 ≤ r) (r1 : r ≤ 1000) {s : Kn} (v1 : isVol a s.1 = true) (v2 : isVol b s.2 = true) {l : List Rdg} {w : AVal} (hw : RL l w) (hf : ∀ i, i < l.length → ferr l i = 0) (hl1 : l.length ≤ 100000) {L M : Lim} (oL : LimOk a L) (oM : LimOk b M) {tm : List AVal} (fr : Fr52 tm) (h24 : XOpd.eval tm (.t 24) = .fn 81 [] [.iptr [u, v, .int .i64 r, .int .i64 s.1, .int .i64 s.2] 0, .iptr [w] 0]) {σ : Store} (hn : σ.next = 6)
    (g0 : σ.get 0 = some (.cells ([u, v, .int .i64 r, .int .i64 s.1, .int .i64 s.2] ++ (L.cells ++ M.cells)))) (g1 : σ.get 1 = some (.cells [.int .i64 0])) (g2 : σ.get 2 = some (.cells [.int .i64 0, .int .i64 0, .int .i64 0])) (g3 : σ.get 3 = some (.cells [.int .i64 0])) (g4 : σ.get 4 = some (.tok 167 6 1)) (g5 : σ.get 5 = some (.cells [.list 6 (lvs a b (pst (stN a b r s l) 0)) (some 4)])) :
    (∃ τ, Run X (.code (.rangeF (.t 24) [25, 26] xf52a0 xf52b0)) tm σ = some (.normal, tm, τ) ∧ endR a b r s l L M l.length 0 = (l.length, zero3, 12) ∧ τ.get 1 = some (.cells [.int .i64 0]) ∧ τ.get 2 = some (.cells [.int .i64 0, .int .i64 0, .int .i64 0]) ∧ τ.get 3 = some (.cells [.int .i64 0])) ∨
    (∃ τ cs, Run X (.code (.rangeF (.t 24) [25, 26] xf52a0 xf52b0)) tm σ = some (.ret, tm, τ) ∧ (endR a b r s l L M l.length 0).2.1 = .agg cs ∧ cs.length = 3 ∧ cs.all AVal.one = true ∧ τ.get 1 = some (.cells [.int .i64 (endR a b r s l L M l.length 0).1]) ∧ τ.get 2 = some (.cells cs) ∧ τ.get 3 = some (.cells [.int .i64 (endR a b r s l L M l.length 0).2.2])) := by
  obtain ⟨σ0, hσ0⟩ : ∃ σ0, σ.new (.oth (.loop .ready tm [25, 26] xf52a0 xf52b0)) = σ0 := ⟨_, rfl⟩
  have n0 : σ0.next = 7 := by rw [← hσ0]; simp [Store.new, hn]
  have far0 : ∀ k, k ≠ 6 → σ0.get k = σ.get k := fun k hk => by rw [← hσ0, Store.get_new, Mem.put_ne _ (by omega)]
  have g6 : σ0.get 6 = some (.oth (.loop .ready tm [25, 26] xf52a0 xf52b0)) := by rw [← hσ0, Store.get_new, hn, Mem.put_self]
  have hJ0 : J52 a b u v r s l L M tm 0 σ0 :=
    ⟨by omega, fun j hj => by omega, by rw [far0 0 (by omega)]; exact g0, by rw [far0 1 (by omega)]; exact g1, by rw [far0 2 (by omega)]; exact g2, by rw [far0 3 (by omega)]; exact g3, by rw [far0 4 (by omega)]; exact g4, by rw [far0 5 (by omega)]; exact g5, g6⟩
  obtain ⟨τ, hrun, hend⟩ := t129 hX.runs.run p ta tb r0 r1 hw hf (by omega) v1 v2 (m := 6) (σ0 := σ0) (J := J52 a b u v r s l L M tm) (E := fun n τ => E52 a b r s l L M tm n τ) hJ0
    (fun i σ τ h1 h2 h3 => by rw [n0] at h2; exact h1.far h2 h3)
    (fun i σ hi hJ hq hy => by
      rw [n0] at hq
      obtain ⟨bo, σ', k1, k2, k3⟩ := rnd52 hX p ta tb v1 v2 oL oM fr hi hl1 hJ hq hy
      exact ⟨bo, σ', k1, by rw [n0]; exact k2, k3⟩)
  have hcall : Run X (.code (.rangeF (.t 24) [25, 26] xf52a0 xf52b0)) tm σ = rangeC (some (.ret, [.tup []], gc σ0 τ (.tup []))) 6 tm := by
    rw [Run_rangeF, h24]
    simp only [rangeD, List.nil_append, List.cons_append, hn, hσ0]
    rw [hrun]
  have gcg : ∀ k, k < 7 → (gc σ0 τ (.tup [])).get k = τ.get k := fun k hk => rfl
  have dg : ∀ k, k < 6 → ((gc σ0 τ (.tup [])).drop 6).get k = τ.get k := fun k hk => by
    rw [drop_get, if_neg (by omega)]; exact gcg k (by omega)
  rcases hend with ⟨hJ, hall⟩ | ⟨n, hn2, hE, hall⟩
  · obtain ⟨_, ok, _, j1, j2, j3, _, _, j6⟩ := hJ
    have ho : rangeOut (gc σ0 τ (.tup [])) 6 = some .normal := by unfold rangeOut; rw [gcg 6 (by omega), j6]
    have hs := endR_skip (a := a) (b := b) (r := r) (s := s) (l := l) (L := L) (M := M) l.length 0 0 (fun j _ j2 => ok j (by omega))
    refine .inl ⟨(gc σ0 τ (.tup [])).drop 6, by rw [hcall, rangeC_some _ _ _ _ _ ho], ?_, by rw [dg 1 (by omega)]; exact j1, by rw [dg 2 (by omega)]; exact j2, by rw [dg 3 (by omega)]; exact j3⟩
    simpa [endR] using hs
  · obtain ⟨cs, k1, k2, k3, k4, k5, k6⟩ := hE.end hn2
    have ho : rangeOut (gc σ0 τ (.tup [])) 6 = some .ret := by unfold rangeOut; rw [gcg 6 (by omega), hE.2.2]
    exact .inr ⟨(gc σ0 τ (.tup [])).drop 6, cs, by rw [hcall, rangeC_some _ _ _ _ _ ho], k1, k2, k3, by rw [dg 1 (by omega)]; exact k4, by rw [dg 2 (by omega)]; exact k5, by rw [dg 3 (by omega)]; exact k6⟩
set_option maxHeartbeats 1000000 in
theorem z52 {a b : List Kn} {u v : AVal} (p : PV a b u v) (ta : Tab a) (tb : Tab b) {r : Int} (r0 : 0 ≤ r) (r1 : r ≤ 1000) {s : Kn} (v1 : isVol a s.1 = true) (v2 : isVol b s.2 = true) {l : List Rdg} {w : AVal} (hw : RL l w) (hf : ∀ i, i < l.length → ferr l i = 0) (hl1 : l.length ≤ 100000) {L M : Lim} (oL : LimOk a L) (oM : LimOk b M) (σ : Store) :
    Run X (.call 52) [.agg ([u, v, .int .i64 r, .int .i64 s.1, .int .i64 s.2] ++ (L.cells ++ M.cells)), w] σ = some (.ret, [endV (endR a b r s l L M l.length 0)], σ) := by
  have ha := p.ka; have hb := p.kb
  obtain ⟨fs, ff⟩ := endR_free (a := a) (b := b) (r := r) (s := s) (l := l) (L := L) (M := M) l.length 0
  have := call2 (X := X) (a := .agg ([u, v, .int .i64 r, .int .i64 s.1, .int .i64 s.2] ++ (L.cells ++ M.cells))) (b := w) (v := endV (endR a b r s l L M l.length 0)) hX.h52 (by simp [AVal.strip, stripL, AVal.free, freeL, ha.strip, ha.free, hb.strip, hb.free, Lim.cells]) (by rw [hw.strip]; exact hw.free) (by decide) (fun tm hl a0 a1 => ?_) (by simp [endV, AVal.strip, stripL, AVal.free, freeL, fs, ff]) σ
  · simpa [endV, AVal.strip, stripL, fs] using this
  rw [hw.strip] at a1
  replace hl : tm.length = 56 := hl
  have z86 := z86 hX p ta tb r v1 v2
  have t92 := t92 hX.runs.run p r s.1 s.2 hw
  have e0 : xf52.body = .seq xf52.body.fst (.seq xf52.body.snd.fst (.seq (.seq xf52.body.snd.snd.fst.fst (.block 0 (.rangeF (.t 24) [25, 26] xf52a0 xf52b0))) xf52.body.snd.snd.snd)) := rfl
  unfold Gives
  rw [e0, seq_left, seq_left, Run_seq, seq_left, Run_seq]
  have hp0 : lvs a b (pst (stN a b r s l) 0) = [lv a b s] := rfl
  have eP : Ends (Run X (.code (.seq (.seq xf52.body.fst xf52.body.snd.fst) xf52.body.snd.snd.fst.fst)) tm Store.empty) .normal fun tm σ => Fr52 tm ∧ XOpd.eval tm (.t 1) = w ∧ XOpd.eval tm (.t 24) = .fn 81 [] [.iptr [u, v, .int .i64 r, .int .i64 s.1, .int .i64 s.2] 0, .iptr [w] 0] ∧ σ.next = 6 ∧
      σ.get 0 = some (.cells ([u, v, .int .i64 r, .int .i64 s.1, .int .i64 s.2] ++ (L.cells ++ M.cells))) ∧ σ.get 1 = some (.cells [.int .i64 0]) ∧ σ.get 2 = some (.cells [.int .i64 0, .int .i64 0, .int .i64 0]) ∧ σ.get 3 = some (.cells [.int .i64 0]) ∧ σ.get 4 = some (.tok 167 6 1) ∧ σ.get 5 = some (.cells [.list 6 (lvs a b (pst (stN a b r s l) 0)) (some 4)]) := by
    simp only [AVal.strip, stripL, ha.strip, hb.strip, Lim.cells, List.cons_append, List.nil_append] at a0
    rw [hp0]
    simp only [lv] at z86 ⊢
    simp [Fr52, xf52, XCode.fst, XCode.snd, hl, a0, a1, z86, t92, Lim.cells, ha.one, ha.strip, ha.free, hb.one, hb.strip, hb.free, hw.one, hw.strip, hw.free, Store.empty, Store.new, Store.put, Store.get, look, putL, setR, Store.only, Store.merge, touch, wrote, upTo, isIn, okRec, hits, capsOf, xcaps, stripL, AVal.strip, freeL, AVal.free, fillR, chunks, mkV, List.filter]
  obtain ⟨o1, o2, o2', o3, o4, g0, g1, g2, g3, g4, g5⟩ := out_of eP
  rw [o1, thenC_normal, Run_block]
  generalize outT X _ tm Store.empty = tm1 at *
  generalize outS X _ tm Store.empty = σ1 at *
  obtain ⟨hl, h2, h4, h5, h6, h7⟩ := o2
  rcases range52 hX p ta tb r0 r1 v1 v2 hw hf hl1 oL oM ⟨hl, h2, h4, h5, h6, h7⟩ o3 o4 g0 g1 g2 g3 g4 g5 with ⟨τ, k1, k2, k3, k4, k5⟩ | ⟨τ, cs, k1, k2, k3, k4, k5, k6, k7⟩
  · rw [k1, k2]
    simp [xf52, XCode.fst, XCode.snd, hl, o2', h4, h5, h6, k3, k4, k5, endV, zero3, hw.xlen, xresult, xrets, put_next, new_next, Store.get_new, Store.get_put, put_get, setR, only_get, merge_get', only_next, merge_next, upTo_self, upTo_one, merge_only, touch, wrote, isIn, okRec, hits, capsOf, xcaps, stripL, AVal.strip, freeL, AVal.free, fillR, chunks, mkV]
  · rw [k1]
    match cs, k3 with
    | [c1, c2, c3], _ =>
      simp [xf52, XCode.fst, XCode.snd, hl, h4, h5, h6, k2, k5, k6, k7, endV, xresult, xrets, put_next, new_next, Store.get_new, Store.get_put, put_get, setR, only_get, merge_get', only_next, merge_next, upTo_self, upTo_one, merge_only, touch, wrote, isIn, okRec, hits, capsOf, xcaps, stripL, AVal.strip, freeL, AVal.free, fillR, chunks, mkV]
end
end Go.Proofs.YtbgjmclpahganaaGreat.Eng

/-
  VIOLATIONS, E: errors of limits and tasks.
-/
namespace Go.Proofs.YtbgjmclpahganaaGreat.Eng
set_option linter.unusedSimpArgs false
set_option linter.unusedVariables false
def limErr (a : List Kn) (L : Lim) : Int := firstNZ [if !(isLev a L.1) || !(isLev a L.2.1) then 2 else 0, if !(wi L.2.2.1 0 1000000) || !(wi L.2.2.2.1 0 1000000) then 2 else 0, if !(wi L.2.2.2.2 1 200) then 2 else 0, if decide (L.2.1 < L.1) then 9 else 0]
theorem lim_ok {a : List Kn} {L : Lim} (h : limErr a L = 0) : LimOk a L := by
  unfold limErr at h
  cases h1 : isLev a L.1 <;> cases h2 : isLev a L.2.1 <;> simp [firstNZ, h1, h2] at h
  cases h3 : wi L.2.2.1 0 1000000 <;> cases h4 : wi L.2.2.2.1 0 1000000 <;> simp [h3, h4] at h
  cases h5 : wi L.2.2.2.2 1 200 <;> simp [h5] at h
  simp [wi] at h3 h4 h5
  exact ⟨h1, h2, h3.1, h3.2, h4.1, h4.2, h5.1, h5.2, by omega⟩
def limsErr (a b : List Kn) (L M : Lim) : Int := if limErr a L ≠ 0 then limErr a L else limErr b M
theorem lims_ok {a b : List Kn} {L M : Lim} (h : limsErr a b L M = 0) : LimOk a L ∧ LimOk b M := by
  unfold limsErr at h
  split at h
  · contradiction
  · rename_i h0; exact ⟨lim_ok (by simpa using h0), lim_ok h⟩
def tskErr (a b : List Kn) (L M : Lim) (l : List Rdg) : Int := if limsErr a b L M ≠ 0 then limsErr a b L M else listErr l
section
variable {X : FuncId → Option XFunc} (hX : VVioCode X)
include hX
theorem errs94 (c1 c2 c3 c4 : Bool) (tok : Option Nat) (σ : Store) :
    Run X (.call 77) [.list 1 [.fn 113 [] [.iptr [.bool c1] 0, .iptr [.int .i64 2] 0], .fn 113 [] [.iptr [.bool c2] 0, .iptr [.int .i64 2] 0], .fn 113 [] [.iptr [.bool c3] 0, .iptr [.int .i64 2] 0], .fn 113 [] [.iptr [.bool c4] 0, .iptr [.int .i64 9] 0]] tok] σ = some (.ret, [.int .i64 (firstNZ [if c1 then 2 else 0, if c2 then 2 else 0, if c3 then 2 else 0, if c4 then 9 else 0])], σ) := by
  have hS := hX.runs.run.pair.tab.sea
  refine sea58 hS ⟨rfl, by simp [freeL, AVal.free], fun i h1 h2 => ?_⟩ (by simp) tok σ
  have hi : i = 0 ∨ i = 1 ∨ i = 2 ∨ i = 3 := by simp at h1; omega
  rcases hi with rfl | rfl | rfl | rfl
  · exact ⟨_, _, _, rfl, fun σ => sea106 hS _ 2 σ⟩
  · exact ⟨_, _, _, rfl, fun σ => sea106 hS _ 2 σ⟩
  · exact ⟨_, _, _, rfl, fun σ => sea106 hS _ 2 σ⟩
  · exact ⟨_, _, _, rfl, fun σ => sea106 hS _ 9 σ⟩
set_option maxHeartbeats 4000000 in
theorem z94 {a : List Kn} {u : AVal} (ha : KL a u) (ha0 : 0 < a.length) (hn : a.length ≤ 1000000) (L : Lim) (σ : Store) : Run X (.call 94) [.agg [u], .agg L.cells] σ = some (.ret, [.int .i64 (limErr a L)], σ) := by
  have hT := hX.runs.run.pair.tab
  have hS := hT.sea
  have t1 := t64 hT ha ha0 hn L.1; have t2 := t64 hT ha ha0 hn L.2.1
  have w := sea96 hS
  have s59 := sea59 hS
  have e94 := errs94 hX
  refine call2 (v := .int .i64 (limErr a L)) hX.h94 (by simp [AVal.strip, stripL, AVal.free, freeL, ha.strip, ha.free]) rfl (by decide) (fun tm hl h0 h1 => ?_) rfl σ
  simp only [AVal.strip, stripL, ha.strip, Lim.cells] at h0 h1
  replace hl : tm.length = 46 := hl
  unfold Gives limErr
  cases h1' : isLev a L.1
  · cases h3 : wi L.2.2.1 0 1000000
    · simp [xf94, hl, h0, h1, t1, t2, w, s59, e94, h1', h3, ha.one, ha.strip, ha.free, Store.empty, Store.new, Store.put, Store.get, look, putL, setR, Store.only, Store.merge, touch, wrote, upTo, isIn, okRec, hits, capsOf, xcaps, stripL, AVal.strip, freeL, AVal.free, fillR, chunks, mkV, List.filter]
    · simp [xf94, hl, h0, h1, t1, t2, w, s59, e94, h1', h3, ha.one, ha.strip, ha.free, Store.empty, Store.new, Store.put, Store.get, look, putL, setR, Store.only, Store.merge, touch, wrote, upTo, isIn, okRec, hits, capsOf, xcaps, stripL, AVal.strip, freeL, AVal.free, fillR, chunks, mkV, List.filter]
  · cases h3 : wi L.2.2.1 0 1000000
    · simp [xf94, hl, h0, h1, t1, t2, w, s59, e94, h1', h3, ha.one, ha.strip, ha.free, Store.empty, Store.new, Store.put, Store.get, look, putL, setR, Store.only, Store.merge, touch, wrote, upTo, isIn, okRec, hits, capsOf, xcaps, stripL, AVal.strip, freeL, AVal.free, fillR, chunks, mkV, List.filter]
    · simp [xf94, hl, h0, h1, t1, t2, w, s59, e94, h1', h3, ha.one, ha.strip, ha.free, Store.empty, Store.new, Store.put, Store.get, look, putL, setR, Store.only, Store.merge, touch, wrote, upTo, isIn, okRec, hits, capsOf, xcaps, stripL, AVal.strip, freeL, AVal.free, fillR, chunks, mkV, List.filter]
theorem z54 {a : List Kn} {u : AVal} (ha : KL a u) (ha0 : 0 < a.length) (hn : a.length ≤ 1000000) (L : Lim) (σ : Store) : Run X (.call 54) [.agg [u], .agg L.cells] σ = some (.ret, [.int .i64 (limErr a L)], σ) := by
  have hT := hX.runs.run.pair.tab
  have t1 := t19 hT ha ha0 hn L.1; have t2 := t19 hT ha ha0 hn L.2.1
  have w := sea25 hT.sea
  refine call2 (v := .int .i64 (limErr a L)) hX.h54 (by simp [AVal.strip, stripL, AVal.free, freeL, ha.strip, ha.free]) rfl (by decide) (fun tm hl h0 h1 => ?_) rfl σ
  simp only [AVal.strip, stripL, ha.strip, Lim.cells] at h0 h1
  replace hl : tm.length = 44 := hl
  unfold Gives limErr
  cases h1' : isLev a L.1
  · simp [xf54, hl, h0, h1, t1, t2, w, h1', firstNZ, ha.one, ha.strip, ha.free, Store.empty, Store.new, Store.put, Store.get, look, putL, setR, Store.only, Store.merge, touch, wrote, upTo, isIn, okRec, hits, capsOf, xcaps, stripL, AVal.strip, freeL, AVal.free, fillR, chunks, mkV, List.filter]
  cases h2' : isLev a L.2.1
  · simp [xf54, hl, h0, h1, t1, t2, w, h1', h2', firstNZ, ha.one, ha.strip, ha.free, Store.empty, Store.new, Store.put, Store.get, look, putL, setR, Store.only, Store.merge, touch, wrote, upTo, isIn, okRec, hits, capsOf, xcaps, stripL, AVal.strip, freeL, AVal.free, fillR, chunks, mkV, List.filter]
  cases h3 : wi L.2.2.1 0 1000000
  · simp [xf54, hl, h0, h1, t1, t2, w, h1', h2', h3, firstNZ, ha.one, ha.strip, ha.free, Store.empty, Store.new, Store.put, Store.get, look, putL, setR, Store.only, Store.merge, touch, wrote, upTo, isIn, okRec, hits, capsOf, xcaps, stripL, AVal.strip, freeL, AVal.free, fillR, chunks, mkV, List.filter]
  cases h4 : wi L.2.2.2.1 0 1000000
  · simp [xf54, hl, h0, h1, t1, t2, w, h1', h2', h3, h4, firstNZ, ha.one, ha.strip, ha.free, Store.empty, Store.new, Store.put, Store.get, look, putL, setR, Store.only, Store.merge, touch, wrote, upTo, isIn, okRec, hits, capsOf, xcaps, stripL, AVal.strip, freeL, AVal.free, fillR, chunks, mkV, List.filter]
  cases h5 : wi L.2.2.2.2 1 200
  · simp [xf54, hl, h0, h1, t1, t2, w, h1', h2', h3, h4, h5, firstNZ, ha.one, ha.strip, ha.free, Store.empty, Store.new, Store.put, Store.get, look, putL, setR, Store.only, Store.merge, touch, wrote, upTo, isIn, okRec, hits, capsOf, xcaps, stripL, AVal.strip, freeL, AVal.free, fillR, chunks, mkV, List.filter]
  by_cases h6 : L.2.1 < L.1
  · simp [xf54, hl, h0, h1, t1, t2, w, h1', h2', h3, h4, h5, h6, firstNZ, ha.one, ha.strip, ha.free, Store.empty, Store.new, Store.put, Store.get, look, putL, setR, Store.only, Store.merge, touch, wrote, upTo, isIn, okRec, hits, capsOf, xcaps, stripL, AVal.strip, freeL, AVal.free, fillR, chunks, mkV, List.filter]
  · simp [xf54, hl, h0, h1, t1, t2, w, h1', h2', h3, h4, h5, h6, firstNZ, ha.one, ha.strip, ha.free, Store.empty, Store.new, Store.put, Store.get, look, putL, setR, Store.only, Store.merge, touch, wrote, upTo, isIn, okRec, hits, capsOf, xcaps, stripL, AVal.strip, freeL, AVal.free, fillR, chunks, mkV, List.filter]
theorem z93 {a b : List Kn} {u v : AVal} (p : PV a b u v) (a0 : 0 < a.length) (b0 : 0 < b.length) (r : Int) (L M : Lim) (i : Nat) (hi : i < 2) (σ : Store) : Run X (.call 93) [.int .i64 i, .iptr [u, v, .int .i64 r] 0, .iptr [.list 5 [.agg L.cells, .agg M.cells] none] 0] σ = some (.ret, [.int .i64 (if i = 0 then limErr a L else limErr b M)], σ) := by
  have ha := p.ka; have hb := p.kb
  have t1 := z94 hX ha a0 p.na L; have t2 := z94 hX hb b0 p.nb M
  refine call3 (v := .int .i64 (if i = 0 then limErr a L else limErr b M)) hX.h93 rfl (by simp [AVal.strip, stripL, AVal.free, freeL, ha.strip, ha.free, hb.strip, hb.free]) (by simp [AVal.strip, stripL, AVal.free, freeL, Lim.cells]) (by decide) (fun tm hl h0 h1 h2 => ?_) rfl σ
  simp only [AVal.strip, stripL, ha.strip, hb.strip, Lim.cells] at h0 h1 h2
  simp only [Lim.cells] at t1 t2
  replace hl : tm.length = 14 := hl
  unfold Gives
  have hc : i = 0 ∨ i = 1 := by omega
  rcases hc with rfl | rfl
  · simp [xf93, hl, h0, h1, h2, t1, t2, idx, ha.one, ha.strip, ha.free, hb.one, hb.strip, hb.free, Store.empty, Store.new, Store.put, Store.get, look, putL, setR, Store.only, Store.merge, touch, wrote, upTo, isIn, okRec, hits, capsOf, xcaps, stripL, AVal.strip, freeL, AVal.free, fillR, chunks, mkV, List.filter]
  · simp [xf93, hl, h0, h1, h2, t1, t2, idx, ha.one, ha.strip, ha.free, hb.one, hb.strip, hb.free, Store.empty, Store.new, Store.put, Store.get, look, putL, setR, Store.only, Store.merge, touch, wrote, upTo, isIn, okRec, hits, capsOf, xcaps, stripL, AVal.strip, freeL, AVal.free, fillR, chunks, mkV, List.filter]
omit hX in
theorem fst2 (x y : Int) : (fstIx (fun i => if i = 0 then x else y) 2 0).2 = if x ≠ 0 then x else y := by
  by_cases hx : x = 0
  · by_cases hy : y = 0 <;> simp [fstIx, hx, hy]
  · simp [fstIx, hx]
theorem z56 {a b : List Kn} {u v : AVal} (p : PV a b u v) (a0 : 0 < a.length) (b0 : 0 < b.length) (r : Int) (L M : Lim) (tok : Option Nat) (σ : Store) : Run X (.call 56) [.agg [u, v, .int .i64 r], .list 5 [.agg L.cells, .agg M.cells] tok] σ = some (.ret, [.int .i64 (limsErr a b L M)], σ) := by
  have ha := p.ka; have hb := p.kb
  have t60 := t60 hX.runs.run.pair.tab (g := 93) (a := []) (b := [.iptr [u, v, .int .i64 r] 0, .iptr [.list 5 [.agg L.cells, .agg M.cells] none] 0]) (e := fun i => if i = 0 then limErr a L else limErr b M) (n := 2) (fun i hi _ σ => z93 hX p a0 b0 r L M i hi σ) (by omega) rfl (by simp [freeL, AVal.free, ha.free, hb.free, Lim.cells])
  have e : limsErr a b L M = (fstIx (fun i => if i = 0 then limErr a L else limErr b M) 2 0).2 := (fst2 _ _).symm
  rw [e]
  generalize fstIx (fun i => if i = 0 then limErr a L else limErr b M) 2 0 = q at *
  refine call2 (v := .int .i64 q.2) hX.h56 (by simp [AVal.strip, stripL, AVal.free, freeL, ha.strip, ha.free, hb.strip, hb.free]) (by simp [AVal.strip, stripL, AVal.free, freeL, Lim.cells]) (by decide) (fun tm hl h0 h1 => ?_) rfl σ
  simp only [AVal.strip, stripL, ha.strip, hb.strip, Lim.cells] at h0 h1
  have c2 : ((2 : Nat) : Int) = 2 := rfl
  simp only [Lim.cells, c2] at t60
  replace hl : tm.length = 15 := hl
  unfold Gives
  simp [xf56, hl, h0, h1, t60, ha.one, ha.strip, ha.free, hb.one, hb.strip, hb.free, Store.empty, Store.new, Store.put, Store.get, look, putL, setR, Store.only, Store.merge, touch, wrote, upTo, isIn, okRec, hits, capsOf, xcaps, stripL, AVal.strip, freeL, AVal.free, fillR, chunks, mkV, List.filter]
theorem z22 {a b : List Kn} {u v : AVal} (p : PV a b u v) (r : Int) (L M : Lim) (σ : Store) : Run X (.call 22) [.agg [u, v, .int .i64 r], .agg (L.cells ++ M.cells)] σ = some (.ret, [.int .i64 (if pairErr a b r ≠ 0 then pairErr a b r else limsErr a b L M)], σ) := by
  have ha := p.ka; have hb := p.kb
  have t89 := t89 hX.runs.run.pair ha hb p.na p.nb r
  refine call2 (v := .int .i64 (if pairErr a b r ≠ 0 then pairErr a b r else limsErr a b L M)) hX.h22 (by simp [AVal.strip, stripL, AVal.free, freeL, ha.strip, ha.free, hb.strip, hb.free]) rfl (by decide) (fun tm hl h0 h1 => ?_) rfl σ
  simp only [AVal.strip, stripL, ha.strip, hb.strip, Lim.cells, List.cons_append, List.nil_append] at h0 h1
  replace hl : tm.length = 22 := hl
  unfold Gives
  by_cases hp : pairErr a b r = 0
  · obtain ⟨ta, tb, _, _⟩ := pair_ok hp
    have hz : (tabErr a).2 = 0 := ta.err
    have z56 := z56 hX p (by have := ta.two; omega) (by have := tb.two; omega) r L M
    simp only [Lim.cells] at z56
    simp [xf22, hl, h0, h1, t89, z56, hp, pairC, hz, ha.one, ha.strip, ha.free, hb.one, hb.strip, hb.free, Store.empty, Store.new, Store.put, Store.get, look, putL, setR, Store.only, Store.merge, touch, wrote, upTo, isIn, okRec, hits, capsOf, xcaps, stripL, AVal.strip, freeL, AVal.free, fillR, chunks, mkV, List.filter]
  · unfold pairC at t89
    split at t89 <;> simp [xf22, hl, h0, h1, t89, hp, ha.one, ha.strip, ha.free, hb.one, hb.strip, hb.free, Store.empty, Store.new, Store.put, Store.get, look, putL, setR, Store.only, Store.merge, touch, wrote, upTo, isIn, okRec, hits, capsOf, xcaps, stripL, AVal.strip, freeL, AVal.free, fillR, chunks, mkV, List.filter]
theorem z21 {a b : List Kn} {u v : AVal} (p : PV a b u v) (a0 : 0 < a.length) (b0 : 0 < b.length) (r : Int) (L M : Lim) (σ : Store) : Run X (.call 21) [.agg [u, v, .int .i64 r], .agg (L.cells ++ M.cells)] σ = some (.ret, [.int .i64 (limsErr a b L M)], σ) := by
  have ha := p.ka; have hb := p.kb
  have t1 := z54 hX ha a0 p.na L; have t2 := z54 hX hb b0 p.nb M
  refine call2 (v := .int .i64 (limsErr a b L M)) hX.h21 (by simp [AVal.strip, stripL, AVal.free, freeL, ha.strip, ha.free, hb.strip, hb.free]) rfl (by decide) (fun tm hl h0 h1 => ?_) rfl σ
  simp only [AVal.strip, stripL, ha.strip, hb.strip, Lim.cells, List.cons_append, List.nil_append] at h0 h1
  simp only [Lim.cells] at t1 t2
  replace hl : tm.length = 19 := hl
  unfold Gives limsErr
  by_cases c : limErr a L = 0
  · simp [xf21, hl, h0, h1, t1, t2, c, ha.one, ha.strip, ha.free, hb.one, hb.strip, hb.free, Store.empty, Store.new, Store.put, Store.get, look, putL, setR, Store.only, Store.merge, touch, wrote, upTo, isIn, okRec, hits, capsOf, xcaps, stripL, AVal.strip, freeL, AVal.free, fillR, chunks, mkV, List.filter]
  · simp [xf21, hl, h0, h1, t1, t2, c, ha.one, ha.strip, ha.free, hb.one, hb.strip, hb.free, Store.empty, Store.new, Store.put, Store.get, look, putL, setR, Store.only, Store.merge, touch, wrote, upTo, isIn, okRec, hits, capsOf, xcaps, stripL, AVal.strip, freeL, AVal.free, fillR, chunks, mkV, List.filter]
theorem z23 {a b : List Kn} {u v : AVal} (p : PV a b u v) (a0 : 0 < a.length) (b0 : 0 < b.length) (r : Int) (L M : Lim) {l : List Rdg} {w : AVal} (hw : RL l w) (hl1 : l.length ≤ 1000000) (σ : Store) : Run X (.call 23) [.agg [u, v, .int .i64 r], .agg (L.cells ++ M.cells ++ [w])] σ = some (.ret, [.int .i64 (tskErr a b L M l)], σ) := by
  have ha := p.ka; have hb := p.kb
  have z21 := z21 hX p a0 b0 r L M
  have t40 := t40 hX.runs.run hw hl1
  refine call2 (v := .int .i64 (tskErr a b L M l)) hX.h23 (by simp [AVal.strip, stripL, AVal.free, freeL, ha.strip, ha.free, hb.strip, hb.free]) (by simp [AVal.strip, stripL, AVal.free, freeL, hw.strip, hw.free, Lim.cells]) (by decide) (fun tm hl h0 h1 => ?_) rfl σ
  simp only [AVal.strip, stripL, ha.strip, hb.strip, hw.strip, Lim.cells, List.cons_append, List.nil_append] at h0 h1
  simp only [Lim.cells, List.cons_append, List.nil_append] at z21
  replace hl : tm.length = 16 := hl
  unfold Gives tskErr
  by_cases c : limsErr a b L M = 0
  · simp [xf23, hl, h0, h1, z21, t40, c, ha.one, ha.strip, ha.free, hb.one, hb.strip, hb.free, hw.one, hw.strip, hw.free, Store.empty, Store.new, Store.put, Store.get, look, putL, setR, Store.only, Store.merge, touch, wrote, upTo, isIn, okRec, hits, capsOf, xcaps, stripL, AVal.strip, freeL, AVal.free, fillR, chunks, mkV, List.filter]
  · simp [xf23, hl, h0, h1, z21, t40, c, ha.one, ha.strip, ha.free, hb.one, hb.strip, hb.free, hw.one, hw.strip, hw.free, Store.empty, Store.new, Store.put, Store.get, look, putL, setR, Store.only, Store.merge, touch, wrote, upTo, isIn, okRec, hits, capsOf, xcaps, stripL, AVal.strip, freeL, AVal.free, fillR, chunks, mkV, List.filter]
theorem z19 (L M : Lim) {l : List Rdg} {w : AVal} (hw : RL l w) (hl1 : l.length ≤ 1000000) (σ : Store) : Run X (.call 19) [.agg (L.cells ++ M.cells ++ [w])] σ = some (.ret, [.agg (L.cells ++ M.cells ++ [.list 3 (rds l) none])], σ) := by
  have t42 := t42 hX.runs.run hw hl1
  have hs : (AVal.agg (L.cells ++ M.cells ++ [.list 3 (rds l) none])).strip = .agg (L.cells ++ M.cells ++ [.list 3 (rds l) none]) := by simp [AVal.strip, stripL, Lim.cells, rds_strip]
  have := call1 (X := X) (a := .agg (L.cells ++ M.cells ++ [w])) (v := .agg (L.cells ++ M.cells ++ [.list 3 (rds l) none])) hX.h19 (by simp [AVal.strip, stripL, AVal.free, freeL, hw.strip, hw.free, Lim.cells]) (by decide) (fun tm hl h0 => ?_) (by rw [hs]; simp [AVal.free, freeL, Lim.cells, rds_free]) σ
  · rwa [hs] at this
  simp only [AVal.strip, stripL, hw.strip, Lim.cells, List.cons_append, List.nil_append] at h0
  replace hl : tm.length = 9 := hl
  unfold Gives
  simp [xf19, hl, h0, t42, Lim.cells, hw.one, hw.strip, hw.free, Store.empty, Store.new, Store.put, Store.get, look, putL, setR, Store.only, Store.merge, touch, wrote, upTo, isIn, okRec, hits, capsOf, xcaps, stripL, AVal.strip, freeL, AVal.free, fillR, chunks, mkV, List.filter]
theorem z84 {a b : List Kn} {u v : AVal} (p : PV a b u v) (a0 : 0 < a.length) (b0 : 0 < b.length) (r s1 s2 : Int) (L M : Lim) (σ : Store) : Run X (.call 84) [.iptr ([u, v, .int .i64 r, .int .i64 s1, .int .i64 s2] ++ (L.cells ++ M.cells)) 0] σ = some (.ret, [.int .i64 (limsErr a b L M)], σ) := by
  have ha := p.ka; have hb := p.kb
  have z56 := z56 hX p a0 b0 r L M
  refine call1 (v := .int .i64 (limsErr a b L M)) hX.h84 (by simp [AVal.strip, stripL, AVal.free, freeL, ha.strip, ha.free, hb.strip, hb.free, Lim.cells]) (by decide) (fun tm hl h0 => ?_) rfl σ
  simp only [AVal.strip, stripL, ha.strip, hb.strip, Lim.cells, List.cons_append, List.nil_append] at h0
  simp only [Lim.cells] at z56
  replace hl : tm.length = 8 := hl
  unfold Gives
  simp [xf84, hl, h0, z56, ha.one, ha.strip, ha.free, hb.one, hb.strip, hb.free, Store.empty, Store.new, Store.put, Store.get, look, putL, setR, Store.only, Store.merge, touch, wrote, upTo, isIn, okRec, hits, capsOf, xcaps, stripL, AVal.strip, freeL, AVal.free, fillR, chunks, mkV, List.filter]
theorem z85 (L M : Lim) {l : List Rdg} {w : AVal} (hw : RL l w) (hl1 : l.length ≤ 1000000) (σ : Store) : Run X (.call 85) [.iptr (L.cells ++ M.cells ++ [w]) 0] σ = some (.ret, [.int .i64 (listErr l)], σ) := by
  have t91 := t91 hX.runs.run hw hl1
  refine call1 (v := .int .i64 (listErr l)) hX.h85 (by simp [AVal.strip, stripL, AVal.free, freeL, hw.strip, hw.free, Lim.cells]) (by decide) (fun tm hl h0 => ?_) rfl σ
  simp only [AVal.strip, stripL, hw.strip, Lim.cells, List.cons_append, List.nil_append] at h0
  replace hl : tm.length = 5 := hl
  unfold Gives
  simp [xf85, hl, h0, t91, hw.one, hw.strip, hw.free, Store.empty, Store.new, Store.put, Store.get, look, putL, setR, Store.only, Store.merge, touch, wrote, upTo, isIn, okRec, hits, capsOf, xcaps, stripL, AVal.strip, freeL, AVal.free, fillR, chunks, mkV, List.filter]
/-- What a watch is, and its error. -/
def wErr (a b : List Kn) (r : Int) (s : Kn) (L M : Lim) (l : List Rdg) : Int := if bothErr a b r s.1 s.2 ≠ 0 then bothErr a b r s.1 s.2 else tskErr a b L M l
def zero15 : List AVal := [.nils, .nils, .int .i64 0, .int .i64 0, .int .i64 0, .int .i64 0, .int .i64 0, .int .i64 0, .int .i64 0, .int .i64 0, .int .i64 0, .int .i64 0, .int .i64 0, .int .i64 0, .int .i64 0]
def wVal (a b : List Kn) (u v : AVal) (r : Int) (s : Kn) (L M : Lim) : AVal := if bothErr a b r s.1 s.2 ≠ 0 then .agg zero15 else .agg ([u, v, .int .i64 r, .int .i64 s.1, .int .i64 s.2] ++ (L.cells ++ M.cells))
theorem z51 {a b : List Kn} {u v : AVal} (p : PV a b u v) (r : Int) (s : Kn) (L M : Lim) {l : List Rdg} {w : AVal} (hw : RL l w) (hl1 : l.length ≤ 1000000) (σ : Store) : Run X (.call 51) [.agg [u, v, .int .i64 r], .agg [.int .i64 s.1, .int .i64 s.2], .agg (L.cells ++ M.cells ++ [w])] σ = some (.ret, [.tup [wVal a b u v r s L M, .int .i64 (wErr a b r s L M l)]], σ) := by
  have ha := p.ka; have hb := p.kb
  have t83 := t83 hX.runs.run.pair p r s.1 s.2
  have fw : (wVal a b u v r s L M).strip = wVal a b u v r s L M ∧ (wVal a b u v r s L M).free = true := by
    unfold wVal; split
    · exact ⟨rfl, rfl⟩
    · simp [AVal.strip, stripL, AVal.free, freeL, ha.strip, ha.free, hb.strip, hb.free, Lim.cells]
  have := call3 (X := X) (a := .agg [u, v, .int .i64 r]) (b := .agg [.int .i64 s.1, .int .i64 s.2]) (c := .agg (L.cells ++ M.cells ++ [w])) (v := .tup [wVal a b u v r s L M, .int .i64 (wErr a b r s L M l)]) hX.h51 (by simp [AVal.strip, stripL, AVal.free, freeL, ha.strip, ha.free, hb.strip, hb.free]) rfl (by simp [AVal.strip, stripL, AVal.free, freeL, hw.strip, hw.free, Lim.cells]) (by decide) (fun tm hl h0 h1 h2 => ?_) (by simp [AVal.strip, stripL, AVal.free, freeL, fw.1, fw.2]) σ
  · simpa [AVal.strip, stripL, fw.1] using this
  simp only [AVal.strip, stripL, ha.strip, hb.strip, hw.strip, Lim.cells, List.cons_append, List.nil_append] at h0 h1 h2
  replace hl : tm.length = 36 := hl
  unfold Gives wVal wErr
  by_cases hb0 : bothErr a b r s.1 s.2 = 0
  · obtain ⟨ta, tb, _, _, _, _⟩ := both_ok hb0
    have hp : pairErr a b r = 0 := by
      unfold bothErr at hb0; split at hb0
      · exact hb0
      · simp_all
    have hS := hX.runs.run.pair.tab.sea
    have e51 : ∀ tok σ, Run X (.call 77) [.list 1 [.fn 84 [] [.iptr ([u, v, .int .i64 r, .int .i64 s.1, .int .i64 s.2] ++ (L.cells ++ M.cells)) 0], .fn 85 [] [.iptr (L.cells ++ M.cells ++ [w]) 0]] tok] σ = some (.ret, [.int .i64 (firstNZ [limsErr a b L M, listErr l])], σ) := fun tok σ => by
      refine sea58 hS ⟨rfl, by simp [freeL, AVal.free, ha.free, hb.free, hw.free, Lim.cells], fun i h1 h2 => ?_⟩ (by simp) tok σ
      have hi : i = 0 ∨ i = 1 := by simp at h1; omega
      rcases hi with rfl | rfl
      · exact ⟨_, _, _, rfl, fun σ => z84 hX p (by have := ta.two; omega) (by have := tb.two; omega) r s.1 s.2 L M σ⟩
      · exact ⟨_, _, _, rfl, fun σ => z85 hX L M hw hl1 σ⟩
    have et : firstNZ [limsErr a b L M, listErr l] = tskErr a b L M l := by
      unfold tskErr
      by_cases c : limsErr a b L M = 0
      · by_cases c2 : listErr l = 0 <;> simp [firstNZ, c, c2]
      · simp [firstNZ, c]
    rw [et] at e51
    simp only [Lim.cells, List.cons_append, List.nil_append] at e51
    simp [xf51, hl, h0, h1, h2, t83, e51, hb0, sceneV, hp, Lim.cells, xresult, xrets, ha.one, ha.strip, ha.free, hb.one, hb.strip, hb.free, hw.one, hw.strip, hw.free, Store.empty, Store.new, Store.put, Store.get, look, putL, setR, Store.only, Store.merge, touch, wrote, upTo, isIn, okRec, hits, capsOf, xcaps, stripL, AVal.strip, freeL, AVal.free, fillR, chunks, mkV, List.filter]
  · unfold sceneV at t83
    split at t83 <;> simp [xf51, hl, h0, h1, h2, t83, hb0, zero15, xresult, xrets, ha.one, ha.strip, ha.free, hb.one, hb.strip, hb.free, hw.one, hw.strip, hw.free, Store.empty, Store.new, Store.put, Store.get, look, putL, setR, Store.only, Store.merge, touch, wrote, upTo, isIn, okRec, hits, capsOf, xcaps, stripL, AVal.strip, freeL, AVal.free, fillR, chunks, mkV, List.filter]
/-- The answer: the first violation, and the error. -/
def vioV (a b : List Kn) (r : Int) (s : Kn) (L M : Lim) (l : List Rdg) : AVal := if wErr a b r s L M l ≠ 0 then zero3 else (endR a b r s l L M l.length 0).2.1
def vioE (a b : List Kn) (r : Int) (s : Kn) (L M : Lim) (l : List Rdg) : Int := if wErr a b r s L M l ≠ 0 then wErr a b r s L M l else (endR a b r s l L M l.length 0).2.2
omit hX in
theorem endR_cells {a b : List Kn} {r : Int} {s : Kn} {l : List Rdg} {L M : Lim} : ∀ (k i : Nat), ∃ x y z, (endR a b r s l L M k i).2.1 = .agg [.int .i64 x, .int .i64 y, .int .i64 z]
  | 0, i => ⟨_, _, _, rfl⟩
  | k + 1, i => by
    simp only [endR]
    split
    · exact ⟨_, _, _, rfl⟩
    · split
      · rename_i q _; obtain ⟨x, y⟩ := q; exact ⟨_, _, _, rfl⟩
      · exact endR_cells k (i + 1)
theorem z18 {a b : List Kn} {u v : AVal} (p : PV a b u v) (r : Int) (s : Kn) (L M : Lim) {l : List Rdg} {w : AVal} (hw : RL l w) (hl1 : l.length ≤ 1000000) (σ : Store) : Run X (.call 18) [.agg [u, v, .int .i64 r], .agg [.int .i64 s.1, .int .i64 s.2], .agg (L.cells ++ M.cells ++ [w])] σ = some (.ret, [.tup [vioV a b r s L M l, .int .i64 (vioE a b r s L M l)]], σ) := by
  have ha := p.ka; have hb := p.kb
  have z51 := z51 hX p r s L M hw hl1
  have fv : (vioV a b r s L M l).strip = vioV a b r s L M l ∧ (vioV a b r s L M l).free = true := by
    unfold vioV; split
    · exact ⟨rfl, rfl⟩
    · exact endR_free _ _
  have := call3 (X := X) (a := .agg [u, v, .int .i64 r]) (b := .agg [.int .i64 s.1, .int .i64 s.2]) (c := .agg (L.cells ++ M.cells ++ [w])) (v := .tup [vioV a b r s L M l, .int .i64 (vioE a b r s L M l)]) hX.h18 (by simp [AVal.strip, stripL, AVal.free, freeL, ha.strip, ha.free, hb.strip, hb.free]) rfl (by simp [AVal.strip, stripL, AVal.free, freeL, hw.strip, hw.free, Lim.cells]) (by decide) (fun tm hl h0 h1 h2 => ?_) (by simp [AVal.strip, stripL, AVal.free, freeL, fv.1, fv.2]) σ
  · simpa [AVal.strip, stripL, fv.1] using this
  simp only [AVal.strip, stripL, ha.strip, hb.strip, hw.strip, Lim.cells, List.cons_append, List.nil_append] at h0 h1 h2
  simp only [Lim.cells, List.cons_append, List.nil_append] at z51
  replace hl : tm.length = 33 := hl
  unfold Gives vioV vioE
  by_cases hE : wErr a b r s L M l = 0
  · have hb0 : bothErr a b r s.1 s.2 = 0 := by
      unfold wErr at hE; split at hE
      · contradiction
      · simp_all
    have ht : tskErr a b L M l = 0 := by unfold wErr at hE; rw [if_neg (by simpa using hb0)] at hE; exact hE
    have hls : limsErr a b L M = 0 := by
      unfold tskErr at ht; split at ht
      · contradiction
      · simp_all
    have hll : listErr l = 0 := by unfold tskErr at ht; rw [if_neg (by simpa using hls)] at ht; exact ht
    obtain ⟨ta, tb, r0, r1, v1, v2⟩ := both_ok hb0
    obtain ⟨oL, oM⟩ := lims_ok hls
    obtain ⟨l2, hf⟩ := list_ok hll
    have z52 := z52 hX p ta tb r0 r1 v1 v2 hw hf (by omega) oL oM
    obtain ⟨x, y, z, he⟩ := endR_cells (a := a) (b := b) (r := r) (s := s) (l := l) (L := L) (M := M) l.length 0
    simp only [endV, he, Lim.cells, List.cons_append, List.nil_append] at z52
    rw [hE] at z51
    unfold wVal at z51
    rw [if_neg (by simpa using hb0)] at z51
    simp only [Lim.cells, List.cons_append, List.nil_append] at z51
    simp [xf18, hl, h0, h1, h2, z51, z52, hE, he, xresult, xrets, ha.one, ha.strip, ha.free, hb.one, hb.strip, hb.free, hw.one, hw.strip, hw.free, Store.empty, Store.new, Store.put, Store.get, look, putL, setR, Store.only, Store.merge, touch, wrote, upTo, isIn, okRec, hits, capsOf, xcaps, stripL, AVal.strip, freeL, AVal.free, fillR, chunks, mkV, List.filter]
  · unfold wVal at z51
    split at z51
    · simp [xf18, hl, h0, h1, h2, z51, hE, zero3, zero15, xresult, xrets, ha.one, ha.strip, ha.free, hb.one, hb.strip, hb.free, hw.one, hw.strip, hw.free, Store.empty, Store.new, Store.put, Store.get, look, putL, setR, Store.only, Store.merge, touch, wrote, upTo, isIn, okRec, hits, capsOf, xcaps, stripL, AVal.strip, freeL, AVal.free, fillR, chunks, mkV, List.filter]
    · simp only [Lim.cells, List.cons_append, List.nil_append] at z51
      simp [xf18, hl, h0, h1, h2, z51, hE, zero3, zero15, xresult, xrets, ha.one, ha.strip, ha.free, hb.one, hb.strip, hb.free, hw.one, hw.strip, hw.free, Store.empty, Store.new, Store.put, Store.get, look, putL, setR, Store.only, Store.merge, touch, wrote, upTo, isIn, okRec, hits, capsOf, xcaps, stripL, AVal.strip, freeL, AVal.free, fillR, chunks, mkV, List.filter]
end
end Go.Proofs.YtbgjmclpahganaaGreat.Eng

/-
  VIOLATIONS, F: the reference.
-/
namespace Go.Proofs.YtbgjmclpahganaaGreat.Eng
set_option linter.unusedSimpArgs false
set_option linter.unusedVariables false
theorem mnum_mx {l : List Kn} {x : Int} : mnum (mx l x) = (kat l (vix l x - 1)).1 * ((kat l (vix l x)).2 - (kat l (vix l x - 1)).2) + sNum x (kat l (vix l x - 1)).2 (kat l (vix l x - 1)).1 (kat l (vix l x)).1 := by
  unfold mnum mx levR sLo
  simp only
  generalize sNum x (kat l (vix l x - 1)).2 (kat l (vix l x - 1)).1 (kat l (vix l x)).1 = q
  generalize (kat l (vix l x)).2 - (kat l (vix l x - 1)).2 = d
  have := Int.mul_ediv_add_emod q d
  rw [Int.add_mul, Int.mul_comm (q / d) d]; omega
theorem cmp_low {n d N D c : Int} (hd : 0 < d) (hD : 0 < D) (h : n * D = N * d) : n < c * d ↔ N < c * D := by
  rw [← mul_cancel_lt (c := D) hD, h, show c * d * D = c * D * d by rw [Int.mul_assoc, Int.mul_comm d D, Int.mul_assoc], mul_cancel_lt hd]
theorem cmp_high {n d N D c : Int} (hd : 0 < d) (hD : 0 < D) (h : n * D = N * d) : c * d < n ↔ c * D < N := by
  rw [← mul_cancel_lt (c := D) hD, h, show c * d * D = c * D * d by rw [Int.mul_assoc, Int.mul_comm d D, Int.mul_assoc], mul_cancel_lt hd]
theorem cmp_diff {n d nb db nn dn Nb Db Nn Dn c : Int} (hd : 0 < d) (hdb : 0 < db) (hdn : 0 < dn) (hDb : 0 < Db) (hDn : 0 < Dn) (h : n * (db * dn) = (nb * dn - nn * db) * d) (hb : nb * Db = Nb * db) (hn : nn * Dn = Nn * dn) : c * d < n ↔ c * (Db * Dn) < Nb * Dn - Nn * Db := by
  have p1 : 0 < db * dn := Int.mul_pos hdb hdn
  have p2 : 0 < Db * Dn := Int.mul_pos hDb hDn
  rw [← mul_cancel_lt (c := db * dn) p1, h, show c * d * (db * dn) = c * (db * dn) * d by ac_rfl, mul_cancel_lt hd,
    ← mul_cancel_lt (c := Db * Dn) p2]
  have e1 : (nb * dn - nn * db) * (Db * Dn) = (Nb * Dn - Nn * Db) * (db * dn) := by
    rw [Int.sub_mul, Int.sub_mul]
    have a1 : nb * dn * (Db * Dn) = nb * Db * (dn * Dn) := by ac_rfl
    have a2 : nn * db * (Db * Dn) = nn * Dn * (db * Db) := by ac_rfl
    have a3 : Nb * db * (dn * Dn) = Nb * Dn * (db * dn) := by ac_rfl
    have a4 : Nn * dn * (db * Db) = Nn * Db * (db * dn) := by ac_rfl
    rw [a1, a2, hb, hn, a3, a4]
  rw [e1, show c * (db * dn) * (Db * Dn) = c * (Db * Dn) * (db * dn) by ac_rfl, mul_cancel_lt p1]
theorem sgn_neg (z : Int) : (sgn z < 0) = (z < 0) := by unfold sgn; apply propext; repeat' split <;> omega
theorem sgn_pos (z : Int) : (0 < sgn z) = (0 < z) := by unfold sgn; apply propext; repeat' split <;> omega
structure Cell4 (v : AVal) (a b c d : AVal) : Prop where
  eq : v = .agg [a, b, c, d]
  o1 : a.one = true
  o2 : b.one = true
  o3 : c.one = true
  o4 : d.one = true
  s1 : a.strip = a
  s2 : b.strip = b
  s3 : c.strip = c
  s4 : d.strip = d
  f1 : a.free = true
  f2 : b.free = true
  f3 : c.free = true
  f4 : d.free = true
theorem IsR.cell4 {n d : Int} {v : AVal} (h : IsR n d v) : ∃ a b c e, Cell4 v a b c e := by
  obtain ⟨s1, d1, s2, d2, rfl, c1, c2, _⟩ := h
  exact ⟨s1, d1, s2, d2, rfl, c1.one.1, c1.one.2, c2.one.1, c2.one.2, c1.strip.1, c1.strip.2, c2.strip.1, c2.strip.2, c1.free.1, c1.free.2, c2.free.1, c2.free.2⟩
section
variable {X : FuncId → Option XFunc} (hX : VVioCode X)
include hX
/-- What the reference compares. -/
theorem cmp57 {a : List Kn} {u : AVal} (ha : KL a u) (ta : Tab a) {L : Lim} (oL : LimOk a L) {x y : Int} (hx : isVol a x = true) (hy : isVol a y = true) :
    ∃ wn wb wl wh wd we wf wr : AVal, ∃ s0 s1 s2 s3 : Int, (∃ a b c d, Cell4 wn a b c d) ∧ (∃ a b c d, Cell4 wb a b c d) ∧ (∃ a b c d, Cell4 wl a b c d) ∧ (∃ a b c d, Cell4 wh a b c d) ∧ (∃ a b c d, Cell4 wd a b c d) ∧ (∃ a b c d, Cell4 we a b c d) ∧ (∃ a b c d, Cell4 wf a b c d) ∧ (∃ a b c d, Cell4 wr a b c d) ∧
      (∀ σ, Run X (.call 97) [.agg [u], .int .i64 x] σ = some (.ret, [wn], σ)) ∧ (∀ σ, Run X (.call 97) [.agg [u], .int .i64 y] σ = some (.ret, [wb], σ)) ∧
      (∀ σ, Run X (.call 100) [.int .i64 L.1] σ = some (.ret, [wl], σ)) ∧ (∀ σ, Run X (.call 100) [.int .i64 L.2.1] σ = some (.ret, [wh], σ)) ∧ (∀ σ, Run X (.call 100) [.int .i64 L.2.2.1] σ = some (.ret, [wf], σ)) ∧ (∀ σ, Run X (.call 100) [.int .i64 L.2.2.2.1] σ = some (.ret, [wr], σ)) ∧
      (∀ σ, Run X (.call 101) [wb, wn] σ = some (.ret, [wd], σ)) ∧ (∀ σ, Run X (.call 101) [wn, wb] σ = some (.ret, [we], σ)) ∧
      (∀ σ, Run X (.call 99) [wn, wl] σ = some (.ret, [.int .i64 s0], σ)) ∧ (∀ σ, Run X (.call 99) [wn, wh] σ = some (.ret, [.int .i64 s1], σ)) ∧ (∀ σ, Run X (.call 99) [wd, wf] σ = some (.ret, [.int .i64 s2], σ)) ∧ (∀ σ, Run X (.call 99) [we, wr] σ = some (.ret, [.int .i64 s3], σ)) ∧
      decide (s0 < 0) = vb a L x y 0 ∧ decide (0 < s1) = vb a L x y 1 ∧ decide (0 < s2) = vb a L x y 2 ∧ decide (0 < s3) = vb a L x y 3 := by
  have hW := hX.runs.run.pair.tab.wide
  obtain ⟨wn, ⟨nn, dn, rn, en, bn1, bn2⟩, cn⟩ := z97 hX ha ta hx
  obtain ⟨wb, ⟨nb, db, rb, eb, bb1, bb2⟩, cb⟩ := z97 hX ha ta hy
  rw [← mnum_mx] at en eb
  have l0 := lev_in ta oL.lo; have l1 := lev_in ta oL.hi
  have f0 := oL.f0; have f1 := oL.f1; have r0 := oL.r0; have r1 := oL.r1
  have ox := mx_ok ta hx; have oy := mx_ok ta hy
  obtain ⟨wl, rl, cl⟩ := w121 hW (n := L.1) (by omega) (by omega)
  obtain ⟨wh, rh, ch⟩ := w121 hW (n := L.2.1) (by omega) (by omega)
  obtain ⟨wf, rf, cf⟩ := w121 hW (n := L.2.2.1) (by omega) (by omega)
  obtain ⟨wr, rr, cr⟩ := w121 hW (n := L.2.2.2.1) (by omega) (by omega)
  obtain ⟨wd, n2, d2, rd, ed, bd1, bd2, cd⟩ := z101 hX rb rn bb1 bb2 bn1 bn2
  obtain ⟨we, n3, d3, re, ee, be1, be2, ce⟩ := z101 hX rn rb bn1 bn2 bb1 bb2
  have sm : ∀ n : Int, 0 ≤ n → n ≤ 1000000 → ab n < pw 15 := fun n h0 h1 => size_le (i := 2) (by omega) (ab_lt (b := 1000000000000000000) h0 (by omega) (by rw [pw2]; omega))
  have s1 : ab 1 < pw 15 := sm 1 (by omega) (by omega)
  have x0 := w73 hW rn rl (size_le (by omega) bn1) (size_le (by omega) bn2) (sm _ l0.1 l0.2) s1
  have x1 := w73 hW rn rh (size_le (by omega) bn1) (size_le (by omega) bn2) (sm _ l1.1 l1.2) s1
  have x2 := w73 hW rd rf bd1 bd2 (sm _ f0 f1) s1
  have x3 := w73 hW re rr be1 be2 (sm _ r0 r1) s1
  have pdn : 0 < dn := by obtain ⟨_, _, _, _, _, _, _, h⟩ := rn; exact h
  have pdb : 0 < db := by obtain ⟨_, _, _, _, _, _, _, h⟩ := rb; exact h
  have pd2 : 0 < d2 := by obtain ⟨_, _, _, _, _, _, _, h⟩ := rd; exact h
  have pd3 : 0 < d3 := by obtain ⟨_, _, _, _, _, _, _, h⟩ := re; exact h
  have pDx : 0 < (mx a x).2.2 := by have := ox.b0; have := ox.b1; omega
  have pDy : 0 < (mx a y).2.2 := by have := oy.b0; have := oy.b1; omega
  refine ⟨wn, wb, wl, wh, wd, we, wf, wr, _, _, _, _, rn.cell4, rb.cell4, rl.cell4, rh.cell4, rd.cell4, re.cell4, rf.cell4, rr.cell4, cn, cb, cl, ch, cf, cr, cd, ce, x0, x1, x2, x3, ?_, ?_, ?_, ?_⟩
  · rw [Bool.eq_iff_iff, decide_eq_true_iff, sgn_neg]
    simp only [vb]
    rw [exc_iff (whl_ok l0.1 l0.2) ox, ]
    have := cmp_low (c := L.1) pdn pDx en
    simp only [mnum, whl] at this ⊢
    rw [Int.mul_one, Int.zero_mul, Int.mul_one, Int.add_zero, Int.mul_one]
    omega
  · rw [Bool.eq_iff_iff, decide_eq_true_iff, sgn_pos]
    simp only [vb]
    rw [exc_iff ox (whl_ok l1.1 l1.2)]
    have := cmp_high (c := L.2.1) pdn pDx en
    simp only [mnum, whl] at this ⊢
    rw [Int.mul_one, Int.zero_mul, Int.mul_one, Int.add_zero, Int.mul_one]
    omega
  · rw [Bool.eq_iff_iff, decide_eq_true_iff, sgn_pos]
    simp only [vb]
    rw [exc_iff oy ox]
    have := cmp_diff (c := L.2.2.1) pd2 pdb pdn pDy pDx ed eb en
    rw [Int.mul_one]
    omega
  · rw [Bool.eq_iff_iff, decide_eq_true_iff, sgn_pos]
    simp only [vb]
    rw [exc_iff ox oy]
    have := cmp_diff (c := L.2.2.2.1) pd3 pdn pdb pDx pDy ee en eb
    rw [Int.mul_one]
    omega
omit hX
theorem inner57 {f : Nat → Bool} {sl : AVal} {t i N : Nat} {σ : Store} (hN : 3 ≤ N) (g : σ.get 2 = some (.cells [.int .i64 0, .int .i64 0, .int .i64 0])) (g15 : σ.get N = some (.cells [.bool (f 0), .bool (f 1), .bool (f 2), .bool (f 3)])) (tm : List AVal) (hl : tm.length = 90) (h2 : XOpd.eval tm (.t 2) = sl) (h3 : XOpd.eval tm (.t 3) = .int .i64 t) (h4 : XOpd.eval tm (.t 4) = .ptr 0 0) (h5 : XOpd.eval tm (.t 5) = .ptr 1 0) (h8 : XOpd.eval tm (.t 8) = .ptr 2 0) (h10 : XOpd.eval tm (.t 10) = .int .i64 i) (h15 : XOpd.eval tm (.t 15) = .ptr N 0) (h16 : XOpd.eval tm (.t 16) = .int .i64 0) :
    Ends (Run X (.code (.loop xf57l0)) tm σ) (exO 2 (fe f 4 0)) fun tm' σ' => tm'.length = 90 ∧ XOpd.eval tm' (.t 8) = .ptr 2 0 ∧ (fe f 4 0 = none → σ' = σ ∧ XOpd.eval tm' (.t 2) = sl ∧ XOpd.eval tm' (.t 3) = .int .i64 t ∧ XOpd.eval tm' (.t 4) = .ptr 0 0 ∧ XOpd.eval tm' (.t 5) = .ptr 1 0 ∧ XOpd.eval tm' (.t 10) = .int .i64 i) ∧
      ∀ k, fe f 4 0 = some k → XOpd.eval tm' (.t 9) = .bool true ∧ σ'.get 2 = some (.cells [.int .i64 t, .int .i64 i, .int .i64 k]) := by
  have w0 : IntKind.i64.wrap (0 + 1) = 1 := rfl
  have w1 : IntKind.i64.wrap (1 + 1) = 2 := rfl
  have w2 : IntKind.i64.wrap (2 + 1) = 3 := rfl
  have w3 : IntKind.i64.wrap (3 + 1) = 4 := rfl
  have w0' : IntKind.i64.wrap 1 = 1 := rfl
  have w1' : IntKind.i64.wrap 2 = 2 := rfl
  have w2' : IntKind.i64.wrap 3 = 3 := rfl
  have w3' : IntKind.i64.wrap 4 = 4 := rfl
  cases c0 : f 0
  · cases c1 : f 1
    · cases c2 : f 2
      · cases c3 : f 3
        · have hf : fe f 4 0 = none := by simp [fe, c0, c1, c2, c3]
          rw [hf]
          simp [xf57l0, Run_loop, exO, hl, h2, h3, h4, h5, h8, h10, h15, h16, c0, c1, c2, c3, g, g15, w0, w1, w2, w3, w0', w1', w2', w3', idx, put_next, new_next, Store.get_new, Store.get_put, put_get, setR, only_get, merge_get', only_next, merge_next, upTo_self, upTo_one, merge_only, touch, wrote, isIn, okRec, hits, capsOf, xcaps, stripL, AVal.strip, freeL, AVal.free, fillR, chunks, mkV]
        · have hf : fe f 4 0 = some 3 := by simp [fe, c0, c1, c2, c3]
          rw [hf]
          simp [xf57l0, Run_loop, exO, hl, h2, h3, h4, h5, h8, h10, h15, h16, c0, c1, c2, c3, g, g15, w0, w1, w2, w3, w0', w1', w2', w3', idx, put_next, new_next, Store.get_new, Store.get_put, put_get, setR, only_get, merge_get', only_next, merge_next, upTo_self, upTo_one, merge_only, touch, wrote, isIn, okRec, hits, capsOf, xcaps, stripL, AVal.strip, freeL, AVal.free, fillR, chunks, mkV]
      · have hf : fe f 4 0 = some 2 := by simp [fe, c0, c1, c2]
        rw [hf]
        simp [xf57l0, Run_loop, exO, hl, h2, h3, h4, h5, h8, h10, h15, h16, c0, c1, c2, g, g15, w0, w1, w2, w3, w0', w1', w2', w3', idx, put_next, new_next, Store.get_new, Store.get_put, put_get, setR, only_get, merge_get', only_next, merge_next, upTo_self, upTo_one, merge_only, touch, wrote, isIn, okRec, hits, capsOf, xcaps, stripL, AVal.strip, freeL, AVal.free, fillR, chunks, mkV]
    · have hf : fe f 4 0 = some 1 := by simp [fe, c0, c1]
      rw [hf]
      simp [xf57l0, Run_loop, exO, hl, h2, h3, h4, h5, h8, h10, h15, h16, c0, c1, g, g15, w0, w1, w2, w3, w0', w1', w2', w3', idx, put_next, new_next, Store.get_new, Store.get_put, put_get, setR, only_get, merge_get', only_next, merge_next, upTo_self, upTo_one, merge_only, touch, wrote, isIn, okRec, hits, capsOf, xcaps, stripL, AVal.strip, freeL, AVal.free, fillR, chunks, mkV]
  · have hf : fe f 4 0 = some 0 := by simp [fe, c0]
    rw [hf]
    simp [xf57l0, Run_loop, exO, hl, h2, h3, h4, h5, h8, h10, h15, h16, c0, g, g15, w0, w1, w2, w3, w0', w1', w2', w3', idx, put_next, new_next, Store.get_new, Store.get_put, put_get, setR, only_get, merge_get', only_next, merge_next, upTo_self, upTo_one, merge_only, touch, wrote, isIn, okRec, hits, capsOf, xcaps, stripL, AVal.strip, freeL, AVal.free, fillR, chunks, mkV]
def I57 (u v : AVal) (r : Int) (L M : Lim) (xs : List Kn) (t i : Nat) (tm : List AVal) (σ : Store) : Prop :=
  tm.length = 90 ∧ XOpd.eval tm (.t 2) = .list 2 (kns xs) none ∧ XOpd.eval tm (.t 3) = .int .i64 t ∧ XOpd.eval tm (.t 4) = .ptr 0 0 ∧ XOpd.eval tm (.t 5) = .ptr 1 0 ∧ XOpd.eval tm (.t 8) = .ptr 2 0 ∧ XOpd.eval tm (.t 10) = .int .i64 i ∧
  σ.get 0 = some (.cells [u, v, .int .i64 r]) ∧ σ.get 1 = some (.cells (L.cells ++ M.cells)) ∧ σ.get 2 = some (.cells [.int .i64 0, .int .i64 0, .int .i64 0]) ∧ 3 ≤ σ.next
include hX
set_option maxHeartbeats 4000000 in
theorem round57 {a b : List Kn} {u v : AVal} (p : PV a b u v) (ta : Tab a) (tb : Tab b) {r : Int} {L M : Lim} (oL : LimOk a L) (oM : LimOk b M) {xs : List Kn} (hv : ∀ i, i < xs.length → isVol a (kat xs i).1 = true ∧ isVol b (kat xs i).2 = true) {t : Nat} (ht : t < xs.length) (hn : xs.length ≤ 1000000) {i : Nat} (hi : i < 2) {tm : List AVal} {σ : Store} (h : I57 u v r L M xs t i tm σ) {o : Option Nat}
    (ho : o = if i = 0 then fe (vb a L (kat xs t).1 (kat xs (wb t L.2.2.2.2)).1) 4 0 else fe (vb b M (kat xs t).2 (kat xs (wb t M.2.2.2.2)).2) 4 0) :
    Ends (Run X (.code xf57l1) tm σ) (exR o) fun tm' σ' => (o = none → I57 u v r L M xs t (i + 1) tm' σ') ∧ ∀ k, o = some k → tm'.length = 90 ∧ XOpd.eval tm' (.t 8) = .ptr 2 0 ∧ XOpd.eval tm' (.t 9) = .bool true ∧ σ'.get 2 = some (.cells [.int .i64 t, .int .i64 i, .int .i64 k]) := by
  obtain ⟨hl, h2, h3, h4, h5, h8, h10, g0, g1, g2, nx⟩ := h
  obtain ⟨N, hN⟩ : ∃ N, σ.next = N + 3 := ⟨σ.next - 3, by omega⟩
  have hw : IntKind.i64.wrap ((i : Int) + 1) = ((i + 1 : Nat) : Int) := by rw [wrap_i64] <;> omega
  have ha := p.ka; have hb := p.kb
  have q1 := kns_getElem? (l := xs) (i := t) ht
  have z95 := z95 hX p r i
  have z96 := z96 hX L M i
  have z98 := fun k => z98 hX k i
  have hc : i = 0 ∨ i = 1 := by omega
  rcases hc with rfl | rfl
  · have kw : wb t L.2.2.2.2 < xs.length := by have := wb_le t L.2.2.2.2; omega
    have q2 := kns_getElem? (l := xs) (i := wb t L.2.2.2.2) kw
    have e1 : IntKind.i64.wrap ((t : Int) - L.2.2.2.2) = (t : Int) - L.2.2.2.2 := by have := oL.w0; have := oL.w1; rw [wrap_i64] <;> omega
    have e2 : (if L.2.2.2.2 < (t : Int) then (t : Int) - L.2.2.2.2 else 0) = ((wb t L.2.2.2.2 : Nat) : Int) := by have := oL.w0; unfold wb; split <;> omega
    obtain ⟨wn, wb', wl, wh, wd, we, wf, wr, s0, s1, s2, s3, ⟨_, _, _, _, k1⟩, ⟨_, _, _, _, k2⟩, ⟨_, _, _, _, k3⟩, ⟨_, _, _, _, k4⟩, ⟨_, _, _, _, k5⟩, ⟨_, _, _, _, k6⟩, ⟨_, _, _, _, k7⟩, ⟨_, _, _, _, k8⟩, cn, cb, cl, ch, cf, cr, cd, ce, x0, x1, x2, x3, y0, y1, y2, y3⟩ := cmp57 hX ha ta oL (hv t ht).1 (hv _ kw).1
    rw [if_pos rfl] at ho
    simp only [Rdg.enc, Kn.enc, Lim.cells, List.cons_append, List.nil_append, if_true] at z95 z96 z98 g1 q1 q2
    have c0 : ((0 : Nat) : Int) = 0 := rfl
    simp only [c0] at z95 z96 z98
    rw [k1.eq] at cn cd ce x0 x1
    rw [k2.eq] at cb cd ce
    rw [k3.eq] at cl x0
    rw [k4.eq] at ch x1
    rw [k5.eq] at cd x2
    rw [k6.eq] at ce x3
    rw [k7.eq] at cf x2
    rw [k8.eq] at cr x3
    have hI := fun (σ : Store) g g15 tm z1 z2 z3 z4 z5 z6 z7 z8 z9 => out_of (inner57 (X := X) (f := vb a L (kat xs t).1 (kat xs (wb t L.2.2.2.2)).1) (sl := .list 2 (kns xs) none) (t := t) (i := 0) (N := N + 7) (σ := σ) (by omega) g g15 tm z1 z2 z3 z4 z5 z6 z7 z8 z9)
    rw [← ho] at hI
    have fK := And.intro k1 (And.intro k2 (And.intro k3 (And.intro k4 (And.intro k5 (And.intro k6 (And.intro k7 k8))))))
    simp only [← y0, ← y1, ← y2, ← y3] at hI
    cases o with
    | none =>
      simp only [exO, true_implies, reduceCtorEq, false_implies, implies_true, and_true, exR] at hI ⊢
      simp (maxDischargeDepth := 24) [xf57l1, I57, hl, h2, h3, h4, h5, h8, h10, g0, g1, g2, hN, ht, kw, q1, q2, e1, e2, z95, z96, z98, cn, cb, cl, ch, cf, cr, cd, ce, x0, x1, x2, x3, hI, hw, Lim.cells, ha.one, ha.strip, ha.free, hb.one, hb.strip, hb.free, k1.o1, k1.o2, k1.o3, k1.o4, k1.s1, k1.s2, k1.s3, k1.s4, k1.f1, k1.f2, k1.f3, k1.f4, k2.o1, k2.o2, k2.o3, k2.o4, k2.s1, k2.s2, k2.s3, k2.s4, k2.f1, k2.f2, k2.f3, k2.f4, k3.s1, k3.s2, k3.s3, k3.s4, k3.f1, k3.f2, k3.f3, k3.f4, k4.s1, k4.s2, k4.s3, k4.s4, k4.f1, k4.f2, k4.f3, k4.f4, k5.s1, k5.s2, k5.s3, k5.s4, k5.f1, k5.f2, k5.f3, k5.f4, k6.s1, k6.s2, k6.s3, k6.s4, k6.f1, k6.f2, k6.f3, k6.f4, k7.s1, k7.s2, k7.s3, k7.s4, k7.f1, k7.f2, k7.f3, k7.f4, k8.s1, k8.s2, k8.s3, k8.s4, k8.f1, k8.f2, k8.f3, k8.f4, Kn.enc, put_next, new_next, Store.get_new, Store.get_put, put_get, setR, only_get, merge_get', only_next, merge_next, upTo_self, upTo_one, merge_only, touch, wrote, isIn, okRec, hits, capsOf, xcaps, stripL, AVal.strip, freeL, AVal.free, fillR, chunks, mkV]
    | some k =>
      have hI := fun (σ : Store) g g15 tm z1 z2 z3 z4 z5 z6 z7 z8 z9 => And.intro (hI σ g g15 tm z1 z2 z3 z4 z5 z6 z7 z8 z9).1 (And.intro (hI σ g g15 tm z1 z2 z3 z4 z5 z6 z7 z8 z9).2.1 (And.intro (hI σ g g15 tm z1 z2 z3 z4 z5 z6 z7 z8 z9).2.2.1 ((hI σ g g15 tm z1 z2 z3 z4 z5 z6 z7 z8 z9).2.2.2.2 k rfl)))
      simp only [exO, exR] at hI ⊢
      simp (maxDischargeDepth := 24) [xf57l1, I57, hl, h2, h3, h4, h5, h8, h10, g0, g1, g2, hN, ht, kw, q1, q2, e1, e2, z95, z96, z98, cn, cb, cl, ch, cf, cr, cd, ce, x0, x1, x2, x3, hI, hw, Lim.cells, ha.one, ha.strip, ha.free, hb.one, hb.strip, hb.free, k1.o1, k1.o2, k1.o3, k1.o4, k1.s1, k1.s2, k1.s3, k1.s4, k1.f1, k1.f2, k1.f3, k1.f4, k2.o1, k2.o2, k2.o3, k2.o4, k2.s1, k2.s2, k2.s3, k2.s4, k2.f1, k2.f2, k2.f3, k2.f4, k3.s1, k3.s2, k3.s3, k3.s4, k3.f1, k3.f2, k3.f3, k3.f4, k4.s1, k4.s2, k4.s3, k4.s4, k4.f1, k4.f2, k4.f3, k4.f4, k5.s1, k5.s2, k5.s3, k5.s4, k5.f1, k5.f2, k5.f3, k5.f4, k6.s1, k6.s2, k6.s3, k6.s4, k6.f1, k6.f2, k6.f3, k6.f4, k7.s1, k7.s2, k7.s3, k7.s4, k7.f1, k7.f2, k7.f3, k7.f4, k8.s1, k8.s2, k8.s3, k8.s4, k8.f1, k8.f2, k8.f3, k8.f4, Kn.enc, put_next, new_next, Store.get_new, Store.get_put, put_get, setR, only_get, merge_get', only_next, merge_next, upTo_self, upTo_one, merge_only, touch, wrote, isIn, okRec, hits, capsOf, xcaps, stripL, AVal.strip, freeL, AVal.free, fillR, chunks, mkV]
  · have kw : wb t M.2.2.2.2 < xs.length := by have := wb_le t M.2.2.2.2; omega
    have q2 := kns_getElem? (l := xs) (i := wb t M.2.2.2.2) kw
    have e1 : IntKind.i64.wrap ((t : Int) - M.2.2.2.2) = (t : Int) - M.2.2.2.2 := by have := oM.w0; have := oM.w1; rw [wrap_i64] <;> omega
    have e2 : (if M.2.2.2.2 < (t : Int) then (t : Int) - M.2.2.2.2 else 0) = ((wb t M.2.2.2.2 : Nat) : Int) := by have := oM.w0; unfold wb; split <;> omega
    obtain ⟨wn, wb', wl, wh, wd, we, wf, wr, s0, s1, s2, s3, ⟨_, _, _, _, k1⟩, ⟨_, _, _, _, k2⟩, ⟨_, _, _, _, k3⟩, ⟨_, _, _, _, k4⟩, ⟨_, _, _, _, k5⟩, ⟨_, _, _, _, k6⟩, ⟨_, _, _, _, k7⟩, ⟨_, _, _, _, k8⟩, cn, cb, cl, ch, cf, cr, cd, ce, x0, x1, x2, x3, y0, y1, y2, y3⟩ := cmp57 hX hb tb oM (hv t ht).2 (hv _ kw).2
    rw [if_neg (by decide)] at ho
    simp only [Rdg.enc, Kn.enc, Lim.cells, List.cons_append, List.nil_append] at z95 z96 z98 g1 q1 q2
    have c0 : ((1 : Nat) : Int) = 1 := rfl
    have c1 : ¬ (1 : Nat) = 0 := by decide
    simp only [c0, c1, if_false] at z95 z96 z98
    rw [k1.eq] at cn cd ce x0 x1
    rw [k2.eq] at cb cd ce
    rw [k3.eq] at cl x0
    rw [k4.eq] at ch x1
    rw [k5.eq] at cd x2
    rw [k6.eq] at ce x3
    rw [k7.eq] at cf x2
    rw [k8.eq] at cr x3
    have hI := fun (σ : Store) g g15 tm z1 z2 z3 z4 z5 z6 z7 z8 z9 => out_of (inner57 (X := X) (f := vb b M (kat xs t).2 (kat xs (wb t M.2.2.2.2)).2) (sl := .list 2 (kns xs) none) (t := t) (i := 1) (N := N + 7) (σ := σ) (by omega) g g15 tm z1 z2 z3 z4 z5 z6 z7 z8 z9)
    rw [← ho] at hI
    have fK := And.intro k1 (And.intro k2 (And.intro k3 (And.intro k4 (And.intro k5 (And.intro k6 (And.intro k7 k8))))))
    simp only [← y0, ← y1, ← y2, ← y3] at hI
    cases o with
    | none =>
      simp only [exO, true_implies, reduceCtorEq, false_implies, implies_true, and_true, exR] at hI ⊢
      simp (maxDischargeDepth := 24) [xf57l1, I57, hl, h2, h3, h4, h5, h8, h10, g0, g1, g2, hN, ht, kw, q1, q2, e1, e2, z95, z96, z98, cn, cb, cl, ch, cf, cr, cd, ce, x0, x1, x2, x3, hI, hw, Lim.cells, ha.one, ha.strip, ha.free, hb.one, hb.strip, hb.free, k1.o1, k1.o2, k1.o3, k1.o4, k1.s1, k1.s2, k1.s3, k1.s4, k1.f1, k1.f2, k1.f3, k1.f4, k2.o1, k2.o2, k2.o3, k2.o4, k2.s1, k2.s2, k2.s3, k2.s4, k2.f1, k2.f2, k2.f3, k2.f4, k3.s1, k3.s2, k3.s3, k3.s4, k3.f1, k3.f2, k3.f3, k3.f4, k4.s1, k4.s2, k4.s3, k4.s4, k4.f1, k4.f2, k4.f3, k4.f4, k5.s1, k5.s2, k5.s3, k5.s4, k5.f1, k5.f2, k5.f3, k5.f4, k6.s1, k6.s2, k6.s3, k6.s4, k6.f1, k6.f2, k6.f3, k6.f4, k7.s1, k7.s2, k7.s3, k7.s4, k7.f1, k7.f2, k7.f3, k7.f4, k8.s1, k8.s2, k8.s3, k8.s4, k8.f1, k8.f2, k8.f3, k8.f4, Kn.enc, put_next, new_next, Store.get_new, Store.get_put, put_get, setR, only_get, merge_get', only_next, merge_next, upTo_self, upTo_one, merge_only, touch, wrote, isIn, okRec, hits, capsOf, xcaps, stripL, AVal.strip, freeL, AVal.free, fillR, chunks, mkV]
    | some k =>
      have hI := fun (σ : Store) g g15 tm z1 z2 z3 z4 z5 z6 z7 z8 z9 => And.intro (hI σ g g15 tm z1 z2 z3 z4 z5 z6 z7 z8 z9).1 (And.intro (hI σ g g15 tm z1 z2 z3 z4 z5 z6 z7 z8 z9).2.1 (And.intro (hI σ g g15 tm z1 z2 z3 z4 z5 z6 z7 z8 z9).2.2.1 ((hI σ g g15 tm z1 z2 z3 z4 z5 z6 z7 z8 z9).2.2.2.2 k rfl)))
      simp only [exO, exR] at hI ⊢
      simp (maxDischargeDepth := 24) [xf57l1, I57, hl, h2, h3, h4, h5, h8, h10, g0, g1, g2, hN, ht, kw, q1, q2, e1, e2, z95, z96, z98, cn, cb, cl, ch, cf, cr, cd, ce, x0, x1, x2, x3, hI, hw, Lim.cells, ha.one, ha.strip, ha.free, hb.one, hb.strip, hb.free, k1.o1, k1.o2, k1.o3, k1.o4, k1.s1, k1.s2, k1.s3, k1.s4, k1.f1, k1.f2, k1.f3, k1.f4, k2.o1, k2.o2, k2.o3, k2.o4, k2.s1, k2.s2, k2.s3, k2.s4, k2.f1, k2.f2, k2.f3, k2.f4, k3.s1, k3.s2, k3.s3, k3.s4, k3.f1, k3.f2, k3.f3, k3.f4, k4.s1, k4.s2, k4.s3, k4.s4, k4.f1, k4.f2, k4.f3, k4.f4, k5.s1, k5.s2, k5.s3, k5.s4, k5.f1, k5.f2, k5.f3, k5.f4, k6.s1, k6.s2, k6.s3, k6.s4, k6.f1, k6.f2, k6.f3, k6.f4, k7.s1, k7.s2, k7.s3, k7.s4, k7.f1, k7.f2, k7.f3, k7.f4, k8.s1, k8.s2, k8.s3, k8.s4, k8.f1, k8.f2, k8.f3, k8.f4, Kn.enc, put_next, new_next, Store.get_new, Store.get_put, put_get, setR, only_get, merge_get', only_next, merge_next, upTo_self, upTo_one, merge_only, touch, wrote, isIn, okRec, hits, capsOf, xcaps, stripL, AVal.strip, freeL, AVal.free, fillR, chunks, mkV]
theorem z57 {a b : List Kn} {u v : AVal} (p : PV a b u v) (ta : Tab a) (tb : Tab b) {r : Int} {L M : Lim} (oL : LimOk a L) (oM : LimOk b M) {xs : List Kn} (hv : ∀ i, i < xs.length → isVol a (kat xs i).1 = true ∧ isVol b (kat xs i).2 = true) {t : Nat} (ht : t < xs.length) (hn : xs.length ≤ 1000000) {w : AVal} (hw : w.strip = .list 2 (kns xs) none) (σ : Store) :
    Run X (.call 57) [.agg [u, v, .int .i64 r], .agg (L.cells ++ M.cells), w, .int .i64 t] σ = some (.ret, [vR t (vF a b L M xs t)], σ) := by
  have ha := p.ka; have hb := p.kb
  have := call4 (X := X) (a := .agg [u, v, .int .i64 r]) (b := .agg (L.cells ++ M.cells)) (c := w) (d := .int .i64 t) (v := vR t (vF a b L M xs t)) hX.h57 (by simp [AVal.strip, stripL, AVal.free, freeL, ha.strip, ha.free, hb.strip, hb.free]) rfl (by rw [hw]; simp [AVal.free, kns_free]) rfl (by decide) (fun tm hl a0 a1 a2 a3 => ?_) (by simp [vR, AVal.strip, stripL, AVal.free, freeL, (vV_free _ _).1, (vV_free _ _).2]) σ
  · simpa [vR, AVal.strip, stripL, (vV_free _ _).1] using this
  rw [hw] at a2
  replace hl : tm.length = 90 := hl
  have e0 : xf57.body = .seq xf57.body.fst (.seq (.seq xf57.body.snd.fst.fst (.block 0 (.loop xf57l1))) xf57.body.snd.snd) := rfl
  unfold Gives
  rw [e0, seq_left, Run_seq, seq_left, Run_seq]
  have eP : Ends (Run X (.code (.seq xf57.body.fst xf57.body.snd.fst.fst)) tm Store.empty) .normal fun tm σ => I57 u v r L M xs t 0 tm σ := by
    simp only [AVal.strip, stripL, ha.strip, hb.strip, Lim.cells, List.cons_append, List.nil_append] at a0 a1 a3
    simp [I57, xf57, XCode.fst, XCode.snd, hl, a0, a1, a2, a3, Lim.cells, ha.one, ha.strip, ha.free, hb.one, hb.strip, hb.free, Store.empty, Store.new, Store.put, Store.get, look, putL, setR, Store.only, Store.merge, touch, wrote, upTo, isIn, okRec, hits, capsOf, xcaps, stripL, AVal.strip, freeL, AVal.free, fillR, chunks, mkV, List.filter]
  obtain ⟨o1, o2⟩ := out_of eP
  rw [o1, thenC_normal, Run_block]
  generalize outT X _ tm Store.empty = tm1 at *
  generalize outS X _ tm Store.empty = σ1 at *
  unfold vF
  cases h0 : fe (vb a L (kat xs t).1 (kat xs (wb t L.2.2.2.2)).1) 4 0 with
  | some k =>
    have r0 := round57 hX (u := u) (v := v) p ta tb (r := r) oL oM hv ht hn (i := 0) (by omega) o2 (o := some k) (by rw [if_pos rfl]; exact h0.symm)
    simp only [exR] at r0
    obtain ⟨q1, q2, q3⟩ := out_of r0
    obtain ⟨x1, x2, x3, x4⟩ := q3 k rfl
    rw [Run_loop, q1]
    simp [xf57, XCode.fst, XCode.snd, x1, x2, x3, x4, vR, vV, xresult, xrets]
  | none =>
    have r0 := round57 hX (u := u) (v := v) p ta tb (r := r) oL oM hv ht hn (i := 0) (by omega) o2 (o := none) (by rw [if_pos rfl]; exact h0.symm)
    simp only [exR] at r0
    obtain ⟨q1, q2, q3⟩ := out_of r0
    have q2 := q2 trivial
    rw [Run_loop, q1, thenC_normal]
    generalize outT X _ tm1 σ1 = tm2 at *
    generalize outS X _ tm1 σ1 = σ2 at *
    cases h1 : fe (vb b M (kat xs t).2 (kat xs (wb t M.2.2.2.2)).2) 4 0 with
    | some k =>
      have r1 := round57 hX (u := u) (v := v) p ta tb (r := r) oL oM hv ht hn (i := 1) (by omega) q2 (o := some k) (by rw [if_neg (by decide)]; exact h1.symm)
      simp only [exR] at r1
      obtain ⟨q1, q2, q3⟩ := out_of r1
      obtain ⟨x1, x2, x3, x4⟩ := q3 k rfl
      rw [Run_loop, q1]
      simp [xf57, XCode.fst, XCode.snd, x1, x2, x3, x4, vR, vV, xresult, xrets]
    | none =>
      have r1 := round57 hX (u := u) (v := v) p ta tb (r := r) oL oM hv ht hn (i := 1) (by omega) q2 (o := none) (by rw [if_neg (by decide)]; exact h1.symm)
      simp only [exR] at r1
      obtain ⟨q1, q2, q3⟩ := out_of r1
      obtain ⟨hl, h2, h3, h4, h5, h8, h10, g0, g1, g2, nx⟩ := q2 trivial
      rw [Run_loop, q1, thenC_normal]
      generalize outT X _ tm2 σ2 = tm3 at *
      generalize outS X _ tm2 σ2 = σ3 at *
      rw [Run_loop]
      simp [xf57l1, xf57, XCode.fst, XCode.snd, hl, h8, h10, g2, vR, vV, xresult, xrets, put_next, new_next, Store.get_new, Store.get_put, put_get, setR, only_get, merge_get', only_next, merge_next, upTo_self, upTo_one, merge_only, touch, wrote, isIn, okRec, hits, capsOf, xcaps, stripL, AVal.strip, freeL, AVal.free, fillR, chunks, mkV]
omit hX
/-- The first tick with a violation. -/
def fv (a b : List Kn) (L M : Lim) (st : Nat → Kn) : Nat → Nat → Option (Nat × Nat × Nat)
  | 0, _ => none
  | k + 1, t => match vG a b L M st t with
    | some q => some (t, q)
    | none => fv a b L M st k (t + 1)
theorem endR_fv {a b : List Kn} {r : Int} {s : Kn} {l : List Rdg} {L M : Lim} : ∀ (k i : Nat), (endR a b r s l L M k i).2 = match fv a b L M (stN a b r s l) (runN a b r s l k i - i) (i + 1) with
    | some (t, q) => (vV t (some q), 0)
    | none => if runN a b r s l k i < i + k then (zero3, 22) else (zero3, 12)
  | 0, i => by simp [endR, runN, fv]
  | k + 1, i => by
    simp only [endR, runN]
    by_cases hz : seA a b r (stN a b r s l i) (rat l i) = 0
    · have ih := endR_fv (a := a) (b := b) (r := r) (s := s) (l := l) (L := L) (M := M) k (i + 1)
      obtain ⟨n1, n2⟩ := runN_le a b r s l k (i + 1)
      simp only [hz, ne_eq, not_true_eq_false, if_false, if_true]
      generalize hn : runN a b r s l k (i + 1) = n at *
      rw [show n - i = (n - (i + 1)) + 1 by omega]
      simp only [fv]
      cases hv : vG a b L M (stN a b r s l) (i + 1) with
      | some q => rfl
      | none =>
        simp only
        rw [ih]
        have e : (n < i + 1 + k) = (n < i + (k + 1)) := by apply propext; omega
        simp only [e]
    · simp only [hz, ne_eq, not_false_eq_true, if_true, if_false, Nat.sub_self, fv]
      rw [if_pos (by omega)]
def I24 (u v : AVal) (r : Int) (L M : Lim) (w : AVal) (xs : List Kn) (ok : Bool) (t : Nat) (tm : List AVal) (σ : Store) : Prop :=
  tm.length = 49 ∧ XOpd.eval tm (.t 3) = .ptr 0 0 ∧ XOpd.eval tm (.t 5) = .ptr 2 0 ∧ XOpd.eval tm (.t 6) = .ptr 3 0 ∧ XOpd.eval tm (.t 10) = .bool ok ∧ (XOpd.eval tm (.t 11)).strip = .list 2 (kns xs) none ∧ xlen (XOpd.eval tm (.t 11)) = some (.int .i64 xs.length) ∧ XOpd.eval tm (.t 12) = .int .i64 t ∧
  σ.get 0 = some (.cells [u, v, .int .i64 r]) ∧ σ.get 2 = some (.cells (L.cells ++ M.cells ++ [w])) ∧ σ.get 3 = some (.cells [.int .i64 0, .int .i64 0, .int .i64 0]) ∧ 4 ≤ σ.next
def exV : Option (Nat × Nat × Nat) → XExit
  | none => .exit 0
  | some _ => .ret
include hX
set_option maxHeartbeats 1000000 in
theorem loop24 {a b : List Kn} {u v : AVal} (p : PV a b u v) (ta : Tab a) (tb : Tab b) {r : Int} {s : Kn} {l : List Rdg} {L M : Lim} (oL : LimOk a L) (oM : LimOk b M) {w : AVal} {n : Nat} (hv : ∀ i, i ≤ n → isVol a (stN a b r s l i).1 = true ∧ isVol b (stN a b r s l i).2 = true) (hn : n ≤ 100000) {ok : Bool} : ∀ (k t : Nat), t + k = n + 1 → ∀ (tm : List AVal) (σ : Store), I24 u v r L M w (pst (stN a b r s l) n) ok t tm σ →
    Ends (Run X (.code (.loop xf24l0)) tm σ) (exV (fv a b L M (stN a b r s l) k t)) fun tm' σ' => tm'.length = 49 ∧ XOpd.eval tm' (.t 6) = .ptr 3 0 ∧ (fv a b L M (stN a b r s l) k t = none → XOpd.eval tm' (.t 10) = .bool ok ∧ σ'.get 3 = some (.cells [.int .i64 0, .int .i64 0, .int .i64 0])) ∧
      ∀ t' la kd, fv a b L M (stN a b r s l) k t = some (t', la, kd) → XOpd.eval tm' (.t 7) = .int .i64 0 ∧ σ'.get 3 = some (.cells [.int .i64 t', .int .i64 la, .int .i64 kd])
  | 0, t, hk, tm, σ, ⟨hl, h3, h5, h6, h10, h11, x11, h12, g0, g2, g3, nx⟩ => by
    have e : t = n + 1 := by omega
    subst e
    rw [Run_loop]
    simp at x11
    simp [xf24l0, fv, exV, hl, h3, h5, h6, h10, x11, h12, g3]
  | k + 1, t, hk, tm, σ, ⟨hl, h3, h5, h6, h10, h11, x11, h12, g0, g2, g3, nx⟩ => by
    have ht : t ≤ n := by omega
    have hti : (t : Int) < (n : Int) + 1 := by omega
    obtain ⟨N, hN⟩ : ∃ N, σ.next = N + 4 := ⟨σ.next - 4, by omega⟩
    have hw : IntKind.i64.wrap ((t : Int) + 1) = ((t + 1 : Nat) : Int) := by rw [wrap_i64] <;> omega
    have ha := p.ka; have hb := p.kb
    have z57 := z57 hX p ta tb (r := r) oL oM (xs := pst (stN a b r s l) n) (fun i hi => by
      simp at hi
      rw [pst_kat (by omega)]; exact hv i (by omega)) (t := t) (by simp; omega) (by simp; omega) h11
    rw [vF_pst ht] at z57
    have ih := loop24 p ta tb oL oM hv hn (ok := ok) (w := w) k (t + 1) (by omega)
    simp at x11
    generalize hsl : XOpd.eval tm (.t 11) = sl at *
    simp only [Lim.cells, List.cons_append, List.nil_append] at g2 z57
    cases hq : vG a b L M (stN a b r s l) t with
    | none =>
      have hf : fv a b L M (stN a b r s l) (k + 1) t = fv a b L M (stN a b r s l) k (t + 1) := by simp only [fv, hq]
      rw [hf]
      rw [hq] at z57
      simp only [vR, vV, Option.isSome] at z57
      have key : Ends (Run X (.code xf24l0) tm σ) .normal fun tm' σ' => I24 u v r L M w (pst (stN a b r s l) n) ok (t + 1) tm' σ' := by
        simp [xf24l0, I24, hl, h3, h5, h6, h10, hsl, h11, x11, h12, g0, g2, g3, hN, hti, z57, hw, Lim.cells, ha.one, ha.strip, ha.free, hb.one, hb.strip, hb.free, put_next, new_next, Store.get_new, Store.get_put, put_get, setR, only_get, merge_get', only_next, merge_next, upTo_self, upTo_one, merge_only, touch, wrote, isIn, okRec, hits, capsOf, xcaps, stripL, AVal.strip, freeL, AVal.free, fillR, chunks, mkV]
      obtain ⟨o1, o2⟩ := out_of key
      rw [Run_loop, o1, thenC_normal]
      exact ih _ _ o2
    | some q =>
      obtain ⟨la, kd⟩ := q
      have hf : fv a b L M (stN a b r s l) (k + 1) t = some (t, la, kd) := by simp only [fv, hq]
      rw [hf, Run_loop]
      rw [hq] at z57
      simp only [vR, vV, Option.isSome] at z57
      simp [xf24l0, exV, hl, h3, h5, h6, h10, hsl, h11, x11, h12, g0, g2, g3, hN, hti, z57, hw, Lim.cells, ha.one, ha.strip, ha.free, hb.one, hb.strip, hb.free, put_next, new_next, Store.get_new, Store.get_put, put_get, setR, only_get, merge_get', only_next, merge_next, upTo_self, upTo_one, merge_only, touch, wrote, isIn, okRec, hits, capsOf, xcaps, stripL, AVal.strip, freeL, AVal.free, fillR, chunks, mkV]
end
end Go.Proofs.YtbgjmclpahganaaGreat.Eng

/-
  VIOLATIONS: the law of limits.
-/
namespace Go.Proofs.YtbgjmclpahganaaGreat.Eng
set_option linter.unusedSimpArgs false
set_option linter.unusedVariables false
theorem runN_stN (a b : List Kn) (r : Int) (s : Kn) (l : List Rdg) : sts a b r s l (runN a b r s l l.length 0) = (pst (stN a b r s l) (runN a b r s l l.length 0)).drop 1 := by
  generalize runN a b r s l l.length 0 = n
  induction n with
  | zero => rfl
  | succ n ih =>
    rw [pst_succ, List.drop_append_of_le_length (by simp), ← ih]; rfl
theorem pst_cons (a b : List Kn) (r : Int) (s : Kn) (l : List Rdg) (n : Nat) : pst (stN a b r s l) n = s :: sts a b r s l n := by
  induction n with
  | zero => rfl
  | succ n ih => rw [pst_succ, ih]; rfl
def refQ (a b : List Kn) (L M : Lim) (st : Nat → Kn) (n len : Nat) : AVal × Int := match fv a b L M st n 1 with
  | some (t, q) => (vV t (some q), 0)
  | none => if n < len then (zero3, 22) else (zero3, 12)
theorem endR_ref {a b : List Kn} {r : Int} {s : Kn} {l : List Rdg} {L M : Lim} : (endR a b r s l L M l.length 0).2 = refQ a b L M (stN a b r s l) (runN a b r s l l.length 0) l.length := by
  rw [endR_fv, Nat.sub_zero, Nat.zero_add, Nat.zero_add]; rfl
theorem refQ_some {a b : List Kn} {L M : Lim} {st : Nat → Kn} {n len t la kd : Nat} (h : fv a b L M st n 1 = some (t, la, kd)) : refQ a b L M st n len = (.agg [.int .i64 t, .int .i64 la, .int .i64 kd], 0) := by unfold refQ; rw [h]; rfl
theorem refQ_none {a b : List Kn} {L M : Lim} {st : Nat → Kn} {n len : Nat} (h : fv a b L M st n 1 = none) : refQ a b L M st n len = if n < len then (zero3, 22) else (zero3, 12) := by unfold refQ; rw [h]
theorem refQ_free {a b : List Kn} {L M : Lim} {st : Nat → Kn} {n len : Nat} : (refQ a b L M st n len).1.strip = (refQ a b L M st n len).1 ∧ (refQ a b L M st n len).1.free = true := by
  cases h : fv a b L M st n 1 with
  | some x => obtain ⟨t, la, kd⟩ := x; rw [refQ_some h]; exact ⟨rfl, rfl⟩
  | none => rw [refQ_none h]; split <;> exact ⟨rfl, rfl⟩
section
variable {X : FuncId → Option XFunc} (hX : VVioCode X)
include hX
set_option maxHeartbeats 1000000 in
theorem z24 {a b : List Kn} {u v : AVal} (p : PV a b u v) {r : Int} {s : Kn} (h0 : bothErr a b r s.1 s.2 = 0) {L M : Lim} (oL : LimOk a L) (oM : LimOk b M) {l : List Rdg} {w : AVal} (hw : RL l w) (hLi : listErr l = 0) (σ : Store) :
    Run X (.call 24) [.agg [u, v, .int .i64 r], .agg [.int .i64 s.1, .int .i64 s.2], .agg (L.cells ++ M.cells ++ [w])] σ = some (.ret, [.tup [(endR a b r s l L M l.length 0).2.1, .int .i64 (endR a b r s l L M l.length 0).2.2]], σ) := by
  have ha := p.ka; have hb := p.kb
  obtain ⟨ta, tb, r0, r1, v1, v2⟩ := both_ok h0
  obtain ⟨hl1, hf⟩ := list_ok hLi
  obtain ⟨z, ⟨vs, kvs, rfl⟩, z16⟩ := z16 hX.runs p (r := r) (s := s) h0 hw hLi
  have he := endR_ref (a := a) (b := b) (r := r) (s := s) (l := l) (L := L) (M := M)
  have hcons := pst_cons a b r s l (runN a b r s l l.length 0)
  obtain ⟨n1, n2⟩ := runN_le a b r s l l.length 0
  obtain ⟨n3, n4⟩ := runN_ok a b r s l l.length 0
  have hvol : ∀ i, i ≤ runN a b r s l l.length 0 → isVol a (stN a b r s l i).1 = true ∧ isVol b (stN a b r s l i).2 = true := fun i hi => stN_vol ta tb v1 v2 (i := i) (l := l) (r := r) (fun j hj => n3 j (by omega) (by omega))
  generalize hn : runN a b r s l l.length 0 = n at *
  rw [he]
  obtain ⟨fs, ff⟩ := refQ_free (a := a) (b := b) (L := L) (M := M) (st := stN a b r s l) (n := n) (len := l.length)
  generalize hq : refQ a b L M (stN a b r s l) n l.length = q at *
  have := call3 (X := X) (a := .agg [u, v, .int .i64 r]) (b := .agg [.int .i64 s.1, .int .i64 s.2]) (c := .agg (L.cells ++ M.cells ++ [w])) (v := .tup [q.1, .int .i64 q.2]) hX.h24 (by simp [AVal.strip, stripL, AVal.free, freeL, ha.strip, ha.free, hb.strip, hb.free]) rfl (by simp [AVal.strip, stripL, AVal.free, freeL, hw.strip, hw.free, Lim.cells]) (by decide) (fun tm hl a0 a1 a2 => ?_) (by simp [AVal.strip, stripL, AVal.free, freeL, fs, ff]) σ
  · simpa [AVal.strip, stripL, fs] using this
  simp only [AVal.strip, stripL, ha.strip, hb.strip, hw.strip, Lim.cells, List.cons_append, List.nil_append] at a0 a1 a2
  replace hl : tm.length = 49 := hl
  have e0 : xf24.body = .seq xf24.body.fst (.seq xf24.body.snd.fst (.seq xf24.body.snd.snd.fst (.seq (.seq xf24.body.snd.snd.snd.fst.fst (.block 0 (.loop xf24l0))) xf24.body.snd.snd.snd.snd))) := rfl
  unfold Gives
  rw [e0, seq_left, seq_left, seq_left, Run_seq, seq_left, Run_seq]
  have b1 : (1 + n) * 16 ≤ 1000000000000 := by omega
  have b2 : 1 + n ≤ 1000000000000 := by omega
  have b3 : (n + 1) * 16 ≤ 1000000000000 := by omega
  have b4 : n + 1 ≤ 1000000000000 := by omega
  have b5 : n ≤ 999999999999 := by omega
  have eP : Ends (Run X (.code (.seq (.seq (.seq xf24.body.fst xf24.body.snd.fst) xf24.body.snd.snd.fst) xf24.body.snd.snd.snd.fst.fst)) tm Store.empty) .normal fun tm σ => I24 u v r L M w (pst (stN a b r s l) n) (decide (n = l.length)) 1 tm σ := by
    rw [hcons]
    rcases kvs with ⟨rfl, hs0⟩ | rfl
    · rw [hs0]
      have hn0 : n = 0 := by have := sts_len a b r s l n; rw [hs0] at this; simpa using this.symm
      simp [I24, xf24, XCode.fst, XCode.snd, hl, a0, a1, a2, z16, Lim.cells, xappend, AVal.isSlice, kns, Kn.enc, ha.one, ha.strip, ha.free, hb.one, hb.strip, hb.free, hw.one, hw.strip, hw.free, Store.empty, Store.new, Store.put, Store.get, look, putL, setR, Store.only, Store.merge, touch, wrote, upTo, isIn, okRec, hits, capsOf, xcaps, stripL, AVal.strip, freeL, AVal.free, fillR, chunks, mkV, List.filter]
    · by_cases hn0 : n = 0
      · subst hn0
        simp [I24, xf24, XCode.fst, XCode.snd, hl, a0, a1, a2, z16, Lim.cells, xappend, AVal.isSlice, sts, ones, kns, Kn.enc, ha.one, ha.strip, ha.free, hb.one, hb.strip, hb.free, hw.one, hw.strip, hw.free, Store.empty, Store.new, Store.put, Store.get, look, putL, setR, Store.only, Store.merge, touch, wrote, upTo, isIn, okRec, hits, capsOf, xcaps, stripL, AVal.strip, freeL, AVal.free, fillR, chunks, mkV, List.filter]
      · obtain ⟨c0, cs, hcs⟩ : ∃ c0 cs, sts a b r s l n = c0 :: cs := by
          cases h : sts a b r s l n with
          | nil => have := sts_len a b r s l n; rw [h] at this; simp at this; omega
          | cons c0 cs => exact ⟨c0, cs, rfl⟩
        have hcl : cs.length + 1 = n := by have := sts_len a b r s l n; rw [hcs] at this; simpa using this
        have b6 : (1 + (cs.length + 1)) * 16 ≤ 1000000000000 := by omega
        have b7 : 1 + (cs.length + 1) ≤ 1000000000000 := by omega
        have b8 : cs.length + 1 ≤ 999999999999 := by omega
        have ho : ones (kns (c0 :: cs)) = true := kns_ones _
        have hst : stripL (kns cs) = kns cs := kns_strip cs
        have hcast : ((cs.length : Int) + 1 + 1) = ((cs.length + 1 + 1 : Nat) : Int) := by omega
        rw [hcs] at z16 ⊢
        simp only [kns, List.map_cons, Kn.enc] at z16 ho hst ⊢
        simp [I24, xf24, XCode.fst, XCode.snd, hl, a0, a1, a2, z16, Lim.cells, xappend, AVal.isSlice, ho, hst, b6, b7, b8, kns, Kn.enc, ha.one, ha.strip, ha.free, hb.one, hb.strip, hb.free, hw.one, hw.strip, hw.free, Store.empty, Store.new, Store.put, Store.get, look, putL, setR, Store.only, Store.merge, touch, wrote, upTo, isIn, okRec, hits, capsOf, xcaps, stripL, AVal.strip, freeL, AVal.free, fillR, chunks, mkV, List.filter]
        done
  obtain ⟨o1, o2⟩ := out_of eP
  rw [o1, thenC_normal, Run_block]
  generalize outT X _ tm Store.empty = tm1 at *
  generalize outS X _ tm Store.empty = σ1 at *
  obtain ⟨q1, q2, q3, q4, q5⟩ := out_of (loop24 hX p ta tb oL oM (w := w) (n := n) hvol (by omega) (ok := decide (n = l.length)) n 1 (by omega) tm1 σ1 o2)
  rw [q1]
  generalize outT X _ tm1 σ1 = tm2 at *
  generalize outS X _ tm1 σ1 = σ2 at *
  cases hF : fv a b L M (stN a b r s l) n 1 with
  | some x =>
    obtain ⟨t, la, kd⟩ := x
    rw [refQ_some hF] at hq
    subst hq
    obtain ⟨x1, x2⟩ := q5 t la kd hF
    simp [exV, xf24, XCode.fst, XCode.snd, q2, q3, x1, x2, xresult, xrets, put_next, new_next, Store.get_new, Store.get_put, put_get, setR, only_get, merge_get', only_next, merge_next, upTo_self, upTo_one, merge_only, touch, wrote, isIn, okRec, hits, capsOf, xcaps, stripL, AVal.strip, freeL, AVal.free, fillR, chunks, mkV]
  | none =>
    rw [refQ_none hF] at hq
    obtain ⟨x1, x2⟩ := q4 hF
    by_cases hlt : n < l.length
    · have hne : ¬ n = l.length := by omega
      rw [if_pos hlt] at hq
      subst hq
      simp [exV, xf24, XCode.fst, XCode.snd, q2, q3, x1, x2, hne, zero3, xresult, xrets, put_next, new_next, Store.get_new, Store.get_put, put_get, setR, only_get, merge_get', only_next, merge_next, upTo_self, upTo_one, merge_only, touch, wrote, isIn, okRec, hits, capsOf, xcaps, stripL, AVal.strip, freeL, AVal.free, fillR, chunks, mkV]
    · have hne : n = l.length := by omega
      rw [if_neg hlt] at hq
      subst hq
      simp [exV, xf24, XCode.fst, XCode.snd, q2, q3, x1, x2, hne, zero3, xresult, xrets, put_next, new_next, Store.get_new, Store.get_put, put_get, setR, only_get, merge_get', only_next, merge_next, upTo_self, upTo_one, merge_only, touch, wrote, isIn, okRec, hits, capsOf, xcaps, stripL, AVal.strip, freeL, AVal.free, fillR, chunks, mkV]
set_option maxHeartbeats 4000000 in
theorem z4 (hA : ∀ σ, Run X (.call 8) [] σ = some (.ret, [.bool true], σ)) {a b : List Kn} {u v : AVal} (ha : KL a u) (hb : KL b v) (r : Int) (s : Kn) (L M : Lim) {l : List Rdg} {w : AVal} (hw : RL l w) (σ : Store) :
    Run X (.call 4) [.agg [u, v, .int .i64 r], .agg [.int .i64 s.1, .int .i64 s.2], .agg (L.cells ++ M.cells ++ [w])] σ = some (.ret, [.bool true], σ) := by
  have hR := hX.runs.run
  refine call3 (v := .bool true) hX.h4 (by simp [AVal.strip, stripL, AVal.free, freeL, ha.strip, ha.free, hb.strip, hb.free]) rfl (by simp [AVal.strip, stripL, AVal.free, freeL, hw.strip, hw.free, Lim.cells]) (by decide) (fun tm hl a0 a1 a2 => ?_) rfl σ
  simp only [AVal.strip, stripL, ha.strip, hb.strip, hw.strip, Lim.cells, List.cons_append, List.nil_append] at a0 a1 a2
  replace hl : tm.length = 81 := hl
  have t29 := t29 hR.pair ha hb r
  have z10 := z10 hX.runs l.length
  unfold Gives
  by_cases few : a.length ≤ 12 ∧ b.length ≤ 12
  case neg =>
    have : (decide (a.length ≤ 12) && decide (b.length ≤ 12)) = false := by simpa using few
    rw [this] at t29
    simp [xf4, hl, a0, a1, a2, hA, t29, ha.one, ha.strip, ha.free, hb.one, hb.strip, hb.free, hw.one, hw.strip, hw.free, Store.empty, Store.new, Store.put, Store.get, look, putL, setR, Store.only, Store.merge, touch, wrote, upTo, isIn, okRec, hits, capsOf, xcaps, stripL, AVal.strip, freeL, AVal.free, fillR, chunks, mkV, List.filter]
  obtain ⟨f1, f2⟩ := few
  have p : PV a b u v := ⟨ha, hb, by omega, by omega⟩
  have t33 := t33 hR.pair p r s.1 s.2
  have t35 := t35 hR.pair p r
  by_cases sh : (l.length : Int) ≤ 24 ∨ (200 < (l.length : Int) ∧ (l.length : Int) ≤ 202)
  case neg =>
    have : (decide ((l.length : Int) ≤ 24) || (decide (200 < (l.length : Int)) && decide ((l.length : Int) ≤ 202))) = false := by
      simp only [Bool.or_eq_false_iff, Bool.and_eq_false_iff, decide_eq_false_iff_not]; omega
    rw [this] at z10
    simp [xf4, hl, a0, a1, a2, hA, t29, f1, f2, z10, hw.xlen, ha.one, ha.strip, ha.free, hb.one, hb.strip, hb.free, hw.one, hw.strip, hw.free, Store.empty, Store.new, Store.put, Store.get, look, putL, setR, Store.only, Store.merge, touch, wrote, upTo, isIn, okRec, hits, capsOf, xcaps, stripL, AVal.strip, freeL, AVal.free, fillR, chunks, mkV, List.filter]
  have shT : (decide ((l.length : Int) ≤ 24) || (decide (200 < (l.length : Int)) && decide ((l.length : Int) ≤ 202))) = true := by
    simp only [Bool.or_eq_true, Bool.and_eq_true, decide_eq_true_eq]; exact sh
  rw [shT] at z10
  obtain ⟨u', v', p', t31⟩ := t31 hR.pair p r
  have ha' := p'.ka; have hb' := p'.kb
  have z19 := z19 hX L M hw (by omega)
  have z18 := z18 hX p' r s L M (l := l) (w := .list 3 (rds l) none) (.inr rfl) (by omega)
  have z22 := z22 hX p' r L M
  simp only [Lim.cells, List.cons_append, List.nil_append] at z19 z18 z22
  by_cases hp : pairErr a b r = 0
  case neg =>
    have hb0 : bothErr a b r s.1 s.2 = pairErr a b r := by unfold bothErr; rw [if_pos hp]
    have hwE : wErr a b r s L M l = pairErr a b r := by unfold wErr; rw [if_pos (by rw [hb0]; exact hp), hb0]
    have hv : vioV a b r s L M l = zero3 := by unfold vioV; rw [if_pos (by rw [hwE]; exact hp)]
    have hE : vioE a b r s L M l = pairErr a b r := by unfold vioE; rw [if_pos (by rw [hwE]; exact hp), hwE]
    rw [hv, hE] at z18
    rw [hb0] at t33
    rw [if_pos hp] at z22
    simp [xf4, hl, a0, a1, a2, hA, t29, f1, f2, z10, t33, t35, hp, t31, z19, z18, z22, zero3, hw.xlen, ha.one, ha.strip, ha.free, hb.one, hb.strip, hb.free, hw.one, hw.strip, hw.free, ha'.one, ha'.strip, ha'.free, hb'.one, hb'.strip, hb'.free, rds_strip, rds_free, Store.empty, Store.new, Store.put, Store.get, look, putL, setR, Store.only, Store.merge, touch, wrote, upTo, isIn, okRec, hits, capsOf, xcaps, stripL, AVal.strip, freeL, AVal.free, fillR, chunks, mkV, List.filter]
  obtain ⟨ta, tb, _, _⟩ := pair_ok hp
  have a2' := ta.two; have b2' := tb.two
  have z21 := z21 hX p (by omega) (by omega) r L M
  have z23 := z23 hX p (by omega) (by omega) r L M hw (by omega)
  simp only [Lim.cells, List.cons_append, List.nil_append] at z21 z23
  rw [if_neg (by simpa using hp)] at z22
  by_cases hb0 : bothErr a b r s.1 s.2 = 0
  case neg =>
    have hwE : wErr a b r s L M l = bothErr a b r s.1 s.2 := by unfold wErr; rw [if_pos hb0]
    have hv : vioV a b r s L M l = zero3 := by unfold vioV; rw [if_pos (by rw [hwE]; exact hb0)]
    have hE : vioE a b r s L M l = bothErr a b r s.1 s.2 := by unfold vioE; rw [if_pos (by rw [hwE]; exact hb0), hwE]
    rw [hv, hE] at z18
    simp [xf4, hl, a0, a1, a2, hA, t29, f1, f2, z10, t33, t35, hp, hb0, t31, z19, z18, z22, z21, z23, zero3, hw.xlen, ha.one, ha.strip, ha.free, hb.one, hb.strip, hb.free, hw.one, hw.strip, hw.free, ha'.one, ha'.strip, ha'.free, hb'.one, hb'.strip, hb'.free, rds_strip, rds_free, Store.empty, Store.new, Store.put, Store.get, look, putL, setR, Store.only, Store.merge, touch, wrote, upTo, isIn, okRec, hits, capsOf, xcaps, stripL, AVal.strip, freeL, AVal.free, fillR, chunks, mkV, List.filter]
  by_cases ht : tskErr a b L M l = 0
  case neg =>
    have hwE : wErr a b r s L M l = tskErr a b L M l := by unfold wErr; rw [if_neg (by simpa using hb0)]
    have hv : vioV a b r s L M l = zero3 := by unfold vioV; rw [if_pos (by rw [hwE]; exact ht)]
    have hE : vioE a b r s L M l = tskErr a b L M l := by unfold vioE; rw [if_pos (by rw [hwE]; exact ht), hwE]
    rw [hv, hE] at z18
    simp [xf4, hl, a0, a1, a2, hA, t29, f1, f2, z10, t33, t35, hp, hb0, ht, t31, z19, z18, z22, z21, z23, zero3, hw.xlen, ha.one, ha.strip, ha.free, hb.one, hb.strip, hb.free, hw.one, hw.strip, hw.free, ha'.one, ha'.strip, ha'.free, hb'.one, hb'.strip, hb'.free, rds_strip, rds_free, Store.empty, Store.new, Store.put, Store.get, look, putL, setR, Store.only, Store.merge, touch, wrote, upTo, isIn, okRec, hits, capsOf, xcaps, stripL, AVal.strip, freeL, AVal.free, fillR, chunks, mkV, List.filter]
  have hls : limsErr a b L M = 0 := by
    unfold tskErr at ht; split at ht
    · contradiction
    · simp_all
  have hll : listErr l = 0 := by unfold tskErr at ht; rw [if_neg (by simpa using hls)] at ht; exact ht
  obtain ⟨oL, oM⟩ := lims_ok hls
  have z24 := z24 hX p hb0 oL oM hw hll
  have hwE : wErr a b r s L M l = 0 := by unfold wErr; rw [if_neg (by simpa using hb0)]; exact ht
  have hv : vioV a b r s L M l = (endR a b r s l L M l.length 0).2.1 := by unfold vioV; rw [if_neg (by simpa using hwE)]
  have hE : vioE a b r s L M l = (endR a b r s l L M l.length 0).2.2 := by unfold vioE; rw [if_neg (by simpa using hwE)]
  rw [hv, hE] at z18
  obtain ⟨x, y, z, hc⟩ := endR_cells (a := a) (b := b) (r := r) (s := s) (l := l) (L := L) (M := M) l.length 0
  rw [hc] at z18 z24
  simp only [Lim.cells, List.cons_append, List.nil_append] at z24
  simp [xf4, hl, a0, a1, a2, hA, t29, f1, f2, z10, t33, t35, hp, hb0, ht, t31, z19, z18, z22, z21, z23, z24, hls, hw.xlen, ha.one, ha.strip, ha.free, hb.one, hb.strip, hb.free, hw.one, hw.strip, hw.free, ha'.one, ha'.strip, ha'.free, hb'.one, hb'.strip, hb'.free, rds_strip, rds_free, Store.empty, Store.new, Store.put, Store.get, look, putL, setR, Store.only, Store.merge, touch, wrote, upTo, isIn, okRec, hits, capsOf, xcaps, stripL, AVal.strip, freeL, AVal.free, fillR, chunks, mkV, List.filter]
end
end Go.Proofs.YtbgjmclpahganaaGreat.Eng
