/-
  TABLES, A: knots, and what is found of them.
-/
import Derived.Test.YtbgjmclpahganaaGreatCode1
import Derived.Test.YtbgjmclpahganaaGreatSea1
import Derived.Test.YtbgjmclpahganaaGreatWide1
namespace Go.Proofs.YtbgjmclpahganaaGreat.Eng
set_option linter.unusedSimpArgs false
set_option linter.unusedVariables false

abbrev Kn := Int × Int
def Kn.enc (k : Kn) : AVal := .agg [.int .i64 k.1, .int .i64 k.2]
def kns (l : List Kn) : List AVal := l.map Kn.enc
theorem kns_free (l : List Kn) : freeL (kns l) = true := by rw [freeL_all]; intro x hx; obtain ⟨s, _, rfl⟩ := List.mem_map.1 hx; rfl
theorem kns_strip (l : List Kn) : stripL (kns l) = kns l := freeL_strip (kns_free l)
@[simp] theorem kns_len (l : List Kn) : (kns l).length = l.length := by simp [kns]
theorem kns_getElem {l : List Kn} {i : Nat} (h : i < (kns l).length) : (kns l)[i] = Kn.enc (l[i]'(by rwa [kns_len] at h)) := by simp [kns]
@[simp] theorem kns_take (l : List Kn) (k : Nat) : (kns l).take k = kns (l.take k) := by simp [kns]
theorem kns_ones (l : List Kn) : ones (kns l) = true := by simp [ones, kns, Kn.enc, AVal.one]
/-- Knots, as they come. -/
def KL (l : List Kn) (v : AVal) : Prop := (v = .nils ∧ l = []) ∨ v = .list 2 (kns l) none
theorem KL.strip {l : List Kn} {v : AVal} (h : KL l v) : v.strip = v := by
  rcases h with ⟨rfl, _⟩ | rfl
  · rfl
  · simp [AVal.strip, kns_strip]
theorem KL.free {l : List Kn} {v : AVal} (h : KL l v) : v.free = true := by
  rcases h with ⟨rfl, _⟩ | rfl
  · rfl
  · simp [AVal.free, kns_free]
theorem KL.one {l : List Kn} {v : AVal} (h : KL l v) : v.one = true := by rcases h with ⟨rfl, _⟩ | rfl <;> rfl
theorem KL.xlen {l : List Kn} {v : AVal} (h : KL l v) : xlen v = some (.int .i64 l.length) := by rcases h with ⟨rfl, rfl⟩ | rfl <;> simp
theorem KL.list {l : List Kn} {v : AVal} (h : KL l v) (h0 : 0 < l.length) : v = .list 2 (kns l) none := by
  rcases h with ⟨_, rfl⟩ | h
  · simp at h0
  · exact h
/-- The number at a place. -/
def kat (l : List Kn) (i : Nat) : Kn := l.getD i (0, 0)
theorem kat_get {l : List Kn} {i : Nat} (h : i < l.length) : l[i] = kat l i := by unfold kat; rw [List.getD_eq_getElem?_getD, List.getElem?_eq_getElem h]; rfl
@[simp] theorem kns_get {l : List Kn} {i : Nat} (h : i < (kns l).length) : (kns l)[i] = Kn.enc (kat l i) := by rw [kns_getElem, kat_get]
theorem kns_getElem? {l : List Kn} {i : Nat} (h : i < l.length) : (kns l)[i]? = some (Kn.enc (kat l i)) := by rw [List.getElem?_eq_getElem (by simpa using h), kns_getElem, kat_get]

section
variable {X : FuncId → Option XFunc} (hX : TabCode X)
include hX

theorem t88 {l : List Kn} {v : AVal} (h : KL l v) (h0 : 0 < l.length) (σ : Store) : Run X (.call 73) [.agg [v]] σ = some (.ret, [(kat l 0).enc], σ) := by
  have := h.list h0
  subst this
  refine call1 (v := (kat l 0).enc) hX.h73 (by simp [AVal.strip, stripL, AVal.free, freeL, kns_strip, kns_free]) (by decide) (fun tm hl h1 => ?_) rfl σ
  simp only [AVal.strip, stripL, kns_strip] at h1
  replace hl : tm.length = 8 := hl
  unfold Gives
  simp [xf73, hl, h1, kns_getElem? h0, Kn.enc, Store.empty, Store.new, Store.put, Store.get, look, putL, setR, Store.only, Store.merge, touch, wrote, upTo, isIn, okRec, hits, capsOf, xcaps, stripL, AVal.strip, freeL, AVal.free, fillR, chunks, mkV, List.filter]
theorem t75 {l : List Kn} {v : AVal} (h : KL l v) (h0 : 0 < l.length) (σ : Store) : Run X (.call 59) [.agg [v]] σ = some (.ret, [(kat l 0).enc], σ) := by
  have := h.list h0
  subst this
  refine call1 (v := (kat l 0).enc) hX.h59 (by simp [AVal.strip, stripL, AVal.free, freeL, kns_strip, kns_free]) (by decide) (fun tm hl h1 => ?_) rfl σ
  simp only [AVal.strip, stripL, kns_strip] at h1
  replace hl : tm.length = 7 := hl
  unfold Gives
  simp [xf59, hl, h1, kns_getElem? h0, Kn.enc, Store.empty, Store.new, Store.put, Store.get, look, putL, setR, Store.only, Store.merge, touch, wrote, upTo, isIn, okRec, hits, capsOf, xcaps, stripL, AVal.strip, freeL, AVal.free, fillR, chunks, mkV, List.filter]
theorem t87 {l : List Kn} {v : AVal} (h : KL l v) (h0 : 0 < l.length) (hn : l.length ≤ 1000000) (σ : Store) : Run X (.call 72) [.agg [v]] σ = some (.ret, [(kat l (l.length - 1)).enc], σ) := by
  have := h.list h0
  subst this
  have w1 : IntKind.i64.wrap ((l.length : Int) - 1) = ((l.length - 1 : Nat) : Int) := by rw [wrap_i64] <;> omega
  refine call1 (v := (kat l (l.length - 1)).enc) hX.h72 (by simp [AVal.strip, stripL, AVal.free, freeL, kns_strip, kns_free]) (by decide) (fun tm hl h1 => ?_) rfl σ
  simp only [AVal.strip, stripL, kns_strip] at h1
  replace hl : tm.length = 13 := hl
  unfold Gives
  simp [xf72, hl, h1, w1, kns_getElem? (show l.length - 1 < l.length by omega), Kn.enc, Store.empty, Store.new, Store.put, Store.get, look, putL, setR, Store.only, Store.merge, touch, wrote, upTo, isIn, okRec, hits, capsOf, xcaps, stripL, AVal.strip, freeL, AVal.free, fillR, chunks, mkV, List.filter]
theorem t26 {l : List Kn} {v : AVal} (h : KL l v) (h0 : 0 < l.length) (hn : l.length ≤ 1000000) (σ : Store) : Run X (.call 60) [.agg [v]] σ = some (.ret, [(kat l (l.length - 1)).enc], σ) := by
  have := h.list h0
  subst this
  have w1 : IntKind.i64.wrap ((l.length : Int) - 1) = ((l.length - 1 : Nat) : Int) := by rw [wrap_i64] <;> omega
  refine call1 (v := (kat l (l.length - 1)).enc) hX.h60 (by simp [AVal.strip, stripL, AVal.free, freeL, kns_strip, kns_free]) (by decide) (fun tm hl h1 => ?_) rfl σ
  simp only [AVal.strip, stripL, kns_strip] at h1
  replace hl : tm.length = 11 := hl
  unfold Gives
  simp [xf60, hl, h1, w1, kns_getElem? (show l.length - 1 < l.length by omega), Kn.enc, Store.empty, Store.new, Store.put, Store.get, look, putL, setR, Store.only, Store.merge, touch, wrote, upTo, isIn, okRec, hits, capsOf, xcaps, stripL, AVal.strip, freeL, AVal.free, fillR, chunks, mkV, List.filter]

def isLev (l : List Kn) (n : Int) : Bool := wi n (kat l 0).1 (kat l (l.length - 1)).1
def isVol (l : List Kn) (n : Int) : Bool := wi n (kat l 0).2 (kat l (l.length - 1)).2
theorem t64 {l : List Kn} {v : AVal} (h : KL l v) (h0 : 0 < l.length) (hn : l.length ≤ 1000000) (n : Int) (σ : Store) : Run X (.call 122) [.agg [v], .int .i64 n] σ = some (.ret, [.bool (isLev l n)], σ) := by
  have t1 := t88 hX h h0; have t2 := t87 hX h h0 hn; have t3 := sea96 hX.sea
  refine call2 (v := .bool (isLev l n)) hX.h122 (by simp [AVal.strip, stripL, AVal.free, freeL, h.strip, h.free]) rfl (by decide) (fun tm hl h1 h2 => ?_) rfl σ
  simp only [AVal.strip, stripL, h.strip] at h1 h2
  replace hl : tm.length = 13 := hl
  simp only [Kn.enc] at t1 t2
  unfold Gives
  simp [xf122, hl, h1, h2, t1, t2, t3, isLev, h.strip, h.free, h.one, Store.empty, Store.new, Store.put, Store.get, look, putL, setR, Store.only, Store.merge, touch, wrote, upTo, isIn, okRec, hits, capsOf, xcaps, stripL, AVal.strip, freeL, AVal.free, fillR, chunks, mkV, List.filter]
theorem t112 {l : List Kn} {v : AVal} (h : KL l v) (h0 : 0 < l.length) (hn : l.length ≤ 1000000) (n : Int) (σ : Store) : Run X (.call 76) [.agg [v], .int .i64 n] σ = some (.ret, [.bool (isVol l n)], σ) := by
  have t1 := t88 hX h h0; have t2 := t87 hX h h0 hn; have t3 := sea96 hX.sea
  refine call2 (v := .bool (isVol l n)) hX.h76 (by simp [AVal.strip, stripL, AVal.free, freeL, h.strip, h.free]) rfl (by decide) (fun tm hl h1 h2 => ?_) rfl σ
  simp only [AVal.strip, stripL, h.strip] at h1 h2
  replace hl : tm.length = 13 := hl
  simp only [Kn.enc] at t1 t2
  unfold Gives
  simp [xf76, hl, h1, h2, t1, t2, t3, isVol, h.strip, h.free, h.one, Store.empty, Store.new, Store.put, Store.get, look, putL, setR, Store.only, Store.merge, touch, wrote, upTo, isIn, okRec, hits, capsOf, xcaps, stripL, AVal.strip, freeL, AVal.free, fillR, chunks, mkV, List.filter]
theorem t19 {l : List Kn} {v : AVal} (h : KL l v) (h0 : 0 < l.length) (hn : l.length ≤ 1000000) (n : Int) (σ : Store) : Run X (.call 89) [.agg [v], .int .i64 n] σ = some (.ret, [.bool (isLev l n)], σ) := by
  have t1 := t75 hX h h0; have t2 := t26 hX h h0 hn; have t3 := sea25 hX.sea
  refine call2 (v := .bool (isLev l n)) hX.h89 (by simp [AVal.strip, stripL, AVal.free, freeL, h.strip, h.free]) rfl (by decide) (fun tm hl h1 h2 => ?_) rfl σ
  simp only [AVal.strip, stripL, h.strip] at h1 h2
  replace hl : tm.length = 13 := hl
  simp only [Kn.enc] at t1 t2
  unfold Gives
  simp [xf89, hl, h1, h2, t1, t2, t3, isLev, h.strip, h.free, h.one, Store.empty, Store.new, Store.put, Store.get, look, putL, setR, Store.only, Store.merge, touch, wrote, upTo, isIn, okRec, hits, capsOf, xcaps, stripL, AVal.strip, freeL, AVal.free, fillR, chunks, mkV, List.filter]
theorem t21 {l : List Kn} {v : AVal} (h : KL l v) (h0 : 0 < l.length) (hn : l.length ≤ 1000000) (n : Int) (σ : Store) : Run X (.call 82) [.agg [v], .int .i64 n] σ = some (.ret, [.bool (isVol l n)], σ) := by
  have t1 := t75 hX h h0; have t2 := t26 hX h h0 hn; have t3 := sea25 hX.sea
  refine call2 (v := .bool (isVol l n)) hX.h82 (by simp [AVal.strip, stripL, AVal.free, freeL, h.strip, h.free]) rfl (by decide) (fun tm hl h1 h2 => ?_) rfl σ
  simp only [AVal.strip, stripL, h.strip] at h1 h2
  replace hl : tm.length = 13 := hl
  simp only [Kn.enc] at t1 t2
  unfold Gives
  simp [xf82, hl, h1, h2, t1, t2, t3, isVol, h.strip, h.free, h.one, Store.empty, Store.new, Store.put, Store.get, look, putL, setR, Store.only, Store.merge, touch, wrote, upTo, isIn, okRec, hits, capsOf, xcaps, stripL, AVal.strip, freeL, AVal.free, fillR, chunks, mkV, List.filter]

/-! Copies; few. -/
theorem t12 {l : List Kn} {v : AVal} (h : KL l v) (σ : Store) : Run X (.call 29) [.agg [v]] σ = some (.ret, [.bool (decide (l.length ≤ 12))], σ) := by
  refine call1 (v := .bool (decide (l.length ≤ 12))) hX.h29 (by simp [AVal.strip, stripL, AVal.free, freeL, h.strip, h.free]) (by decide) (fun tm hl h1 => ?_) rfl σ
  simp only [AVal.strip, stripL, h.strip] at h1
  replace hl : tm.length = 7 := hl
  have e : decide ((l.length : Int) ≤ 12) = decide (l.length ≤ 12) := by congr 1; apply propext; omega
  unfold Gives
  simp [xf29, hl, h1, h.xlen, e, Store.empty, Store.new, Store.put, Store.get, look, putL, setR, Store.only, Store.merge, touch, wrote, upTo, isIn, okRec, hits, capsOf, xcaps, stripL, AVal.strip, freeL, AVal.free, fillR, chunks, mkV, List.filter]
theorem t14 {l : List Kn} {v : AVal} (h : KL l v) (hn : l.length ≤ 1000000) : ∃ u, KL l u ∧ ∀ σ, Run X (.call 31) [.agg [v]] σ = some (.ret, [.agg [u]], σ) := by
  refine ⟨.list 2 (kns l) none, .inr rfl, fun σ => ?_⟩
  have hs : (AVal.agg [.list 2 (kns l) (some 2)]).strip = .agg [.list 2 (kns l) none] := by simp [AVal.strip, stripL, kns_strip]
  have := call1 (X := X) (a := .agg [v]) (v := .agg [.list 2 (kns l) (some 2)]) hX.h31 (by simp [AVal.strip, stripL, AVal.free, freeL, h.strip, h.free]) (by decide) (fun tm hl h1 => ?_) (by rw [hs]; simp [AVal.free, freeL, kns_free]) σ
  · rwa [hs] at this
  simp only [AVal.strip, stripL, h.strip] at h1
  replace hl : tm.length = 8 := hl
  have ho := kns_ones l
  have e1 : l.length ≤ 1000000000000 := by omega
  have e2 : l.length * 16 ≤ 1000000000000 := by omega
  unfold Gives
  rcases h with ⟨rfl, rfl⟩ | rfl
  · simp [xf31, hl, h1, xappend, AVal.isSlice, kns, Store.empty, Store.new, Store.put, Store.get, look, putL, setR, Store.only, Store.merge, touch, wrote, upTo, isIn, okRec, hits, capsOf, xcaps, stripL, AVal.strip, freeL, AVal.free, fillR, chunks, mkV, List.filter]
  · cases l with
    | nil => simp [xf31, hl, h1, xappend, AVal.isSlice, kns, ones, Store.empty, Store.new, Store.put, Store.get, look, putL, setR, Store.only, Store.merge, touch, wrote, upTo, isIn, okRec, hits, capsOf, xcaps, stripL, AVal.strip, freeL, AVal.free, fillR, chunks, mkV, List.filter]
    | cons k l =>
      simp only [kns, List.map_cons] at ho
      simp only [List.length_cons] at e1 e2
      simp [xf31, hl, h1, xappend, AVal.isSlice, kns, ho, e1, e2, Store.empty, Store.new, Store.put, Store.get, look, putL, setR, Store.only, Store.merge, touch, wrote, upTo, isIn, okRec, hits, capsOf, xcaps, stripL, AVal.strip, freeL, AVal.free, fillR, chunks, mkV, List.filter]
end
end Go.Proofs.YtbgjmclpahganaaGreat.Eng

/-
  TABLES, B: which are valid.
-/
namespace Go.Proofs.YtbgjmclpahganaaGreat.Eng
set_option linter.unusedSimpArgs false
set_option linter.unusedVariables false

/-- In range. -/
def InR (k : Kn) : Prop := (0 ≤ k.1 ∧ k.1 ≤ 1000000) ∧ 0 ≤ k.2 ∧ k.2 ≤ 1000000000
def kbad (k : Kn) : Bool := !(wi k.1 0 1000000) || !(wi k.2 0 1000000000)
theorem kbad_false {k : Kn} (h : kbad k = false) : InR k := by
  simp [kbad, wi] at h
  exact h
/-- Is the area above less than that below? -/
def lessA (a b c : Kn) : Bool := decide ((c.2 - b.2) * (b.1 - a.1) < (b.2 - a.2) * (c.1 - b.1))
/-- The error of a knot whose forerunners have none. -/
def kerr (l : List Kn) (i : Nat) : Int :=
  if kbad (kat l i) then 2 else if i = 0 then 0 else
  if (kat l i).1 ≤ (kat l (i - 1)).1 ∨ (kat l i).2 ≤ (kat l (i - 1)).2 then 9 else
  if 1 < i ∧ lessA (kat l (i - 2)) (kat l (i - 1)) (kat l i) then 22 else 0
def pc (a b : Kn) : AVal := .agg [.int .i64 a.1, .int .i64 a.2, .int .i64 b.1, .int .i64 b.2]
theorem diff_ok {a b : Kn} (ha : InR a) (hb : InR b) : IntKind.i64.wrap (b.1 - a.1) = b.1 - a.1 ∧ IntKind.i64.wrap (b.2 - a.2) = b.2 - a.2 := by
  unfold InR at *
  constructor <;> (rw [wrap_i64] <;> omega)
theorem prod_ok {x y : Int} (x0 : -1000000000 ≤ x) (x1 : x ≤ 1000000000) (y0 : -1000000000 ≤ y) (y1 : y ≤ 1000000000) : -1000000000000000000 ≤ x * y ∧ x * y ≤ 1000000000000000000 := by
  have h1 : ab x * ab y ≤ 1000000000 * 1000000000 := Int.mul_le_mul (by unfold ab; split <;> omega) (by unfold ab; split <;> omega) (ab_nonneg y) (by omega)
  rw [← ab_mul] at h1
  unfold ab at h1
  split at h1 <;> omega
theorem mul_ok {x y : Int} (x0 : -1000000000 ≤ x) (x1 : x ≤ 1000000000) (y0 : -1000000000 ≤ y) (y1 : y ≤ 1000000000) : IntKind.i64.wrap (x * y) = x * y := by
  have := prod_ok x0 x1 y0 y1
  rw [wrap_i64] <;> omega

section
variable {X : FuncId → Option XFunc} (hX : TabCode X)
include hX

theorem t71 {a b : Kn} (ha : InR a) (hb : InR b) (σ : Store) : Run X (.call 134) [pc a b] σ = some (.ret, [.int .i64 (b.2 - a.2)], σ) := by
  refine call1 (v := .int .i64 (b.2 - a.2)) hX.h134 rfl (by decide) (fun tm hl h1 => ?_) rfl σ
  simp only [AVal.strip, stripL, pc] at h1
  replace hl : tm.length = 10 := hl
  have := diff_ok ha hb
  unfold Gives
  simp [xf134, hl, h1, this, Store.empty, Store.new, Store.put, Store.get, look, putL, setR, Store.only, Store.merge, touch, wrote, upTo, isIn, okRec, hits, capsOf, xcaps, stripL, AVal.strip, freeL, AVal.free, fillR, chunks, mkV, List.filter]
theorem t72 {a b : Kn} (ha : InR a) (hb : InR b) (σ : Store) : Run X (.call 135) [pc a b] σ = some (.ret, [.int .i64 (b.1 - a.1)], σ) := by
  refine call1 (v := .int .i64 (b.1 - a.1)) hX.h135 rfl (by decide) (fun tm hl h1 => ?_) rfl σ
  simp only [AVal.strip, stripL, pc] at h1
  replace hl : tm.length = 10 := hl
  have := diff_ok ha hb
  unfold Gives
  simp [xf135, hl, h1, this, Store.empty, Store.new, Store.put, Store.get, look, putL, setR, Store.only, Store.merge, touch, wrote, upTo, isIn, okRec, hits, capsOf, xcaps, stripL, AVal.strip, freeL, AVal.free, fillR, chunks, mkV, List.filter]
theorem t107 {a b c : Kn} (ha : InR a) (hb : InR b) (hc : InR c) (σ : Store) : Run X (.call 154) [pc b c, pc a b] σ = some (.ret, [.bool (lessA a b c)], σ) := by
  have t1 := t71 hX ha hb; have t2 := t72 hX ha hb; have t3 := t71 hX hb hc; have t4 := t72 hX hb hc
  have w1 : IntKind.i64.wrap ((c.2 - b.2) * (b.1 - a.1)) = (c.2 - b.2) * (b.1 - a.1) := by unfold InR at *; apply mul_ok <;> omega
  have w2 : IntKind.i64.wrap ((b.2 - a.2) * (c.1 - b.1)) = (b.2 - a.2) * (c.1 - b.1) := by unfold InR at *; apply mul_ok <;> omega
  refine call2 (v := .bool (lessA a b c)) hX.h154 rfl rfl (by decide) (fun tm hl h1 h2 => ?_) rfl σ
  simp only [AVal.strip, stripL, pc] at h1 h2
  replace hl : tm.length = 16 := hl
  simp only [pc] at t1 t2 t3 t4
  unfold Gives
  simp [xf154, hl, h1, h2, t1, t2, t3, t4, w1, w2, lessA, Store.empty, Store.new, Store.put, Store.get, look, putL, setR, Store.only, Store.merge, touch, wrote, upTo, isIn, okRec, hits, capsOf, xcaps, stripL, AVal.strip, freeL, AVal.free, fillR, chunks, mkV, List.filter]

theorem t62 {m : List Kn} {i : Nat} (hi : i + 1 = m.length) (hn : m.length ≤ 1000000) (hp : ∀ j, j < i → InR (kat m j)) (σ : Store) : Run X (.call 144) [.list 2 (kns m) none] σ = some (.ret, [.int .i64 (kerr m i)], σ) := by
  refine call1 (v := .int .i64 (kerr m i)) hX.h144 (by simp [AVal.strip, AVal.free, kns_strip, kns_free]) (by decide) (fun tm hl h1 => ?_) rfl σ
  simp only [AVal.strip, kns_strip] at h1
  replace hl : tm.length = 57 := hl
  have w1 : IntKind.i64.wrap ((m.length : Int) - 1) = ((i : Nat) : Int) := by rw [wrap_i64] <;> omega
  have g1 := kns_getElem? (l := m) (i := i) (by omega)
  have h96 := sea96 hX.sea
  unfold Gives
  cases c1 : wi (kat m i).1 0 1000000
  · have e : kerr m i = 2 := by simp [kerr, kbad, c1]
    rw [e]
    simp [xf144, hl, h1, w1, g1, h96, c1, Kn.enc, Store.empty, Store.new, Store.put, Store.get, look, putL, setR, Store.only, Store.merge, touch, wrote, upTo, isIn, okRec, hits, capsOf, xcaps, stripL, AVal.strip, freeL, AVal.free, fillR, chunks, mkV, List.filter]
  cases c2 : wi (kat m i).2 0 1000000000
  · have e : kerr m i = 2 := by simp [kerr, kbad, c2]
    rw [e]
    simp [xf144, hl, h1, w1, g1, h96, c1, c2, Kn.enc, Store.empty, Store.new, Store.put, Store.get, look, putL, setR, Store.only, Store.merge, touch, wrote, upTo, isIn, okRec, hits, capsOf, xcaps, stripL, AVal.strip, freeL, AVal.free, fillR, chunks, mkV, List.filter]
  have hb : kbad (kat m i) = false := by simp [kbad, c1, c2]
  have hr := kbad_false hb
  by_cases c3 : i = 0
  · have e : kerr m i = 0 := by unfold kerr; rw [if_neg (by simp [hb]), if_pos c3]
    have hm1 : (m.length : Int) < 2 := by omega
    rw [e]
    simp [xf144, hl, h1, w1, g1, h96, c1, c2, hm1, Kn.enc, Store.empty, Store.new, Store.put, Store.get, look, putL, setR, Store.only, Store.merge, touch, wrote, upTo, isIn, okRec, hits, capsOf, xcaps, stripL, AVal.strip, freeL, AVal.free, fillR, chunks, mkV, List.filter]
  have hr1 := hp (i - 1) (by omega)
  have c4 : ¬ (m.length : Int) < 2 := by omega
  have w2 : IntKind.i64.wrap ((m.length : Int) - 2) = ((i - 1 : Nat) : Int) := by rw [wrap_i64] <;> omega
  have g2 := kns_getElem? (l := m) (i := i - 1) (by omega)
  have t1 := t71 hX hr1 hr; have t2 := t72 hX hr1 hr
  by_cases c5 : (kat m i).1 ≤ (kat m (i - 1)).1
  · have e : kerr m i = 9 := by simp [kerr, hb, c3, c5]
    have c5' : (kat m i).1 - (kat m (i - 1)).1 ≤ 0 := by omega
    rw [e]
    simp only [pc] at t1 t2
    simp [xf144, hl, h1, w1, w2, g1, g2, h96, c1, c2, c4, c5', t1, t2, Kn.enc, kns_free, kns_strip, Store.empty, Store.new, Store.put, Store.get, look, putL, setR, Store.only, Store.merge, touch, wrote, upTo, isIn, okRec, hits, capsOf, xcaps, stripL, AVal.strip, freeL, AVal.free, fillR, chunks, mkV, List.filter]
  by_cases c6 : (kat m i).2 ≤ (kat m (i - 1)).2
  · have e : kerr m i = 9 := by simp [kerr, hb, c3, c6]
    have c5' : ¬ (kat m i).1 - (kat m (i - 1)).1 ≤ 0 := by omega
    have c6' : (kat m i).2 - (kat m (i - 1)).2 ≤ 0 := by omega
    rw [e]
    simp only [pc] at t1 t2
    simp [xf144, hl, h1, w1, w2, g1, g2, h96, c1, c2, c4, c5', c6', t1, t2, Kn.enc, kns_free, kns_strip, Store.empty, Store.new, Store.put, Store.get, look, putL, setR, Store.only, Store.merge, touch, wrote, upTo, isIn, okRec, hits, capsOf, xcaps, stripL, AVal.strip, freeL, AVal.free, fillR, chunks, mkV, List.filter]
  have c5' : ¬ (kat m i).1 - (kat m (i - 1)).1 ≤ 0 := by omega
  have c6' : ¬ (kat m i).2 - (kat m (i - 1)).2 ≤ 0 := by omega
  by_cases c7 : 1 < i
  · have hr2 := hp (i - 2) (by omega)
    have c7' : (2 : Int) < (m.length : Int) := by omega
    have w3 : IntKind.i64.wrap ((m.length : Int) - 3) = ((i - 2 : Nat) : Int) := by rw [wrap_i64] <;> omega
    have g3 := kns_getElem? (l := m) (i := i - 2) (by omega)
    have t3 := t107 hX hr2 hr1 hr
    cases c8 : lessA (kat m (i - 2)) (kat m (i - 1)) (kat m i)
    · have e : kerr m i = 0 := by simp [kerr, hb, c3, c5, c6, c7, c8]
      rw [e]
      simp only [pc] at t1 t2 t3
      simp [xf144, hl, h1, w1, w2, w3, g1, g2, g3, h96, c1, c2, c4, c5', c6', c7', c8, t1, t2, t3, Kn.enc, kns_free, kns_strip, Store.empty, Store.new, Store.put, Store.get, look, putL, setR, Store.only, Store.merge, touch, wrote, upTo, isIn, okRec, hits, capsOf, xcaps, stripL, AVal.strip, freeL, AVal.free, fillR, chunks, mkV, List.filter]
    · have e : kerr m i = 22 := by simp [kerr, hb, c3, c5, c6, c7, c8]
      rw [e]
      simp only [pc] at t1 t2 t3
      simp [xf144, hl, h1, w1, w2, w3, g1, g2, g3, h96, c1, c2, c4, c5', c6', c7', c8, t1, t2, t3, Kn.enc, kns_free, kns_strip, Store.empty, Store.new, Store.put, Store.get, look, putL, setR, Store.only, Store.merge, touch, wrote, upTo, isIn, okRec, hits, capsOf, xcaps, stripL, AVal.strip, freeL, AVal.free, fillR, chunks, mkV, List.filter]
  · have e : kerr m i = 0 := by simp [kerr, hb, c3, c5, c6, c7]
    have c7' : ¬ (2 : Int) < (m.length : Int) := by omega
    rw [e]
    simp only [pc] at t1 t2
    simp [xf144, hl, h1, w1, w2, g1, g2, h96, c1, c2, c4, c5', c6', c7', t1, t2, Kn.enc, kns_free, kns_strip, Store.empty, Store.new, Store.put, Store.get, look, putL, setR, Store.only, Store.merge, touch, wrote, upTo, isIn, okRec, hits, capsOf, xcaps, stripL, AVal.strip, freeL, AVal.free, fillR, chunks, mkV, List.filter]

/-! The first item with an error, where a check may rely on those before. -/
omit hX in
theorem loop60' {g : FuncId} {a b : List AVal} {e : Nat → Int} {n : Nat} (hE : ∀ i, i < n → (∀ j, j < i → e j = 0) → ∀ σ, Run X (.call g) (a ++ .int .i64 i :: b) σ = some (.ret, [.int .i64 (e i)], σ)) (hn : n ≤ 1000000000000) : ∀ (k i : Nat), i + k = n → (∀ j, j < i → e j = 0) → ∀ (tm : List AVal) (σ : Store), tm.length = 20 → XOpd.eval tm (.t 1) = .fn g a b → XOpd.eval tm (.t 8) = .int .i64 n → XOpd.eval tm (.t 9) = .int .i64 i →
    Ends (Run X (.code (.loop xf74l0)) tm σ) (if (fstIx e k i).2 = 0 then .exit 0 else .ret) fun tm' _ => tm'.length = 20 ∧ ((fstIx e k i).2 ≠ 0 → XOpd.eval tm' (.t 4) = .int .i64 (fstIx e k i).1) ∧ ((fstIx e k i).2 ≠ 0 → XOpd.eval tm' (.t 5) = .int .i64 (fstIx e k i).2)
  | 0, i, hk, hz, tm, σ, hl, h1, h8, h9 => by
    have hi : i = n := by omega
    subst hi
    rw [Run_loop]
    simp [xf74l0, hl, h1, h8, h9, fstIx]
  | k + 1, i, hk, hz, tm, σ, hl, h1, h8, h9 => by
    have hi : i < n := by omega
    have hr := hE i hi hz
    have hw : IntKind.i64.wrap ((i : Int) + 1) = ((i + 1 : Nat) : Int) := by rw [wrap_i64] <;> omega
    rw [Run_loop]
    by_cases he : e i = 0
    · have ih := loop60' hE hn k (i + 1) (by omega) (fun j hj => by
        by_cases h : j = i
        · rw [h]; exact he
        · exact hz j (by omega))
      simp only [fstIx, he, if_true]
      simp [xf74l0, hl, h1, h8, h9, hi, hr, he, hw]
      exact ih _ _ (by simp [hl]) (by simp [hl, h1]) (by simp [hl, h8]) (by simp [hl])
    · simp only [fstIx, he, if_false]
      simp [xf74l0, hl, h1, h8, h9, hi, hr, he]
omit hX in
theorem fstIx_zero {e : Nat → Int} : ∀ k i, (fstIx e k i).2 = 0 → (fstIx e k i).1 = 0
  | 0, _, _ => rfl
  | k + 1, i, h => by
    simp only [fstIx] at h ⊢
    split
    · rename_i h0; rw [if_pos h0] at h; exact fstIx_zero k (i + 1) h
    · rename_i h0; rw [if_neg h0] at h; exact absurd h h0
theorem t60 {g : FuncId} {a b : List AVal} {e : Nat → Int} {n : Nat} (hE : ∀ i, i < n → (∀ j, j < i → e j = 0) → ∀ σ, Run X (.call g) (a ++ .int .i64 i :: b) σ = some (.ret, [.int .i64 (e i)], σ)) (hn : n ≤ 1000000000000) (ha : freeL a = true) (hb : freeL b = true) (σ : Store) : Run X (.call 74) [.int .i64 n, .fn g a b] σ = some (.ret, [.tup [.int .i64 (fstIx e n 0).1, .int .i64 (fstIx e n 0).2]], σ) := by
  refine call2 (v := .tup [.int .i64 (fstIx e n 0).1, .int .i64 (fstIx e n 0).2]) hX.sea.h74 rfl (by simp [AVal.strip, AVal.free, freeL_strip ha, freeL_strip hb, ha, hb]) (by decide) ?_ rfl σ
  intro tm hl h0 h1
  simp only [AVal.strip, freeL_strip ha, freeL_strip hb] at h0 h1
  replace hl : tm.length = 20 := hl
  have hL := fun tm σ h1 h2 h3 h4 => out_of (loop60' hE hn n 0 (by omega) (by omega) tm σ h1 h2 h3 h4)
  unfold Gives
  by_cases he : (fstIx e n 0).2 = 0
  · have hz1 := fstIx_zero _ _ he
    simp only [he, if_true] at hL
    simp (maxDischargeDepth := 9) [xf74, hl, h0, h1, hL, he, hz1, xresult, xrets]
  · simp only [he, if_false] at hL
    simp (maxDischargeDepth := 9) [xf74, hl, h0, h1, hL, he, xresult, xrets]

theorem t61 {l : List Kn} (hn : l.length ≤ 1000000) (i : Nat) (hi : i < l.length) (hz : ∀ j, j < i → kerr l j = 0) (σ : Store) : Run X (.call 143) [.int .i64 i, .iptr [.list 2 (kns l) none] 0] σ = some (.ret, [.int .i64 (kerr l i)], σ) := by
  have hkat : ∀ j, j ≤ i → kat (l.take (i + 1)) j = kat l j := fun j hj => by
    unfold kat; rw [List.getD_eq_getElem?_getD, List.getD_eq_getElem?_getD, List.getElem?_take_of_lt (by omega)]
  have h62 := t62 hX (m := l.take (i + 1)) (i := i) (by simp; omega) (by simp; omega) (fun j hj => by
    rw [hkat j (by omega)]
    have := hz j hj
    unfold kerr at this
    split at this
    · omega
    · rename_i h; exact kbad_false (by simpa using h))
  have e : kerr (l.take (i + 1)) i = kerr l i := by
    unfold kerr
    rw [hkat i (by omega), hkat (i - 1) (by omega), hkat (i - 2) (by omega)]
  rw [e] at h62
  refine call2 (v := .int .i64 (kerr l i)) hX.h143 rfl (by simp [AVal.strip, stripL, AVal.free, freeL, kns_strip, kns_free]) (by decide) (fun tm hl h0 h1 => ?_) rfl σ
  simp only [AVal.strip, stripL, kns_strip] at h0 h1
  replace hl : tm.length = 10 := hl
  have w1 : IntKind.i64.wrap ((i : Int) + 1) = ((i + 1 : Nat) : Int) := by rw [wrap_i64] <;> omega
  have i1 : idx (.int .i64 ((i : Int) + 1)) = some (i + 1) := idx_add .i64 i 1
  unfold Gives
  simp [xf143, hl, h0, h1, w1, i1, show i + 1 ≤ l.length from hi, h62, Store.empty, Store.new, Store.put, Store.get, look, putL, setR, Store.only, Store.merge, touch, wrote, upTo, isIn, okRec, hits, capsOf, xcaps, stripL, AVal.strip, freeL, AVal.free, fillR, chunks, mkV, List.filter]

/-- Which tables are valid. -/
def tabErr (l : List Kn) : Int × Int := if l.length < 2 then (0, 10) else if 10 < l.length then (0, 8) else fstIx (kerr l) l.length 0
theorem t13 {l : List Kn} {v : AVal} (h : KL l v) (hn : l.length ≤ 1000000) (σ : Store) : Run X (.call 121) [.agg [v]] σ = some (.ret, [.tup [.int .i64 (tabErr l).1, .int .i64 (tabErr l).2]], σ) := by
  refine call1 (v := .tup [.int .i64 (tabErr l).1, .int .i64 (tabErr l).2]) hX.h121 (by simp [AVal.strip, stripL, AVal.free, freeL, h.strip, h.free]) (by decide) (fun tm hl h1 => ?_) rfl σ
  simp only [AVal.strip, stripL, h.strip] at h1
  replace hl : tm.length = 27 := hl
  have hE : ∀ (c1 c2 : Bool), Errs X [.fn 113 [] [.iptr [.bool c1] 0, .iptr [.int .i64 10] 0], .fn 113 [] [.iptr [.bool c2] 0, .iptr [.int .i64 8] 0]] [if c1 then 10 else 0, if c2 then 8 else 0] := fun c1 c2 => by
    refine ⟨rfl, by simp [freeL, AVal.free], fun i h h' => ?_⟩
    have hi : i = 0 ∨ i = 1 := by simp at h; omega
    rcases hi with rfl | rfl
    · exact ⟨_, _, _, rfl, fun σ => sea106 hX.sea c1 10 σ⟩
    · exact ⟨_, _, _, rfl, fun σ => sea106 hX.sea c2 8 σ⟩
  have h58 := fun c1 c2 tok => sea58 hX.sea (hE c1 c2) (by simp) tok
  have h59 := sea59 hX.sea
  unfold Gives
  by_cases e0 : l.length < 2
  · have e0' : (l.length : Int) < 2 := by omega
    have e1' : ¬ (10 : Int) < l.length := by omega
    have e : tabErr l = (0, 10) := by simp [tabErr, e0]
    rw [e]
    simp [xf121, hl, h1, h.xlen, h.strip, h.free, h.one, e0', e1', h58, h59, firstNZ, xresult, xrets, Store.empty, Store.new, Store.put, Store.get, look, putL, setR, Store.only, Store.merge, touch, wrote, upTo, isIn, okRec, hits, capsOf, xcaps, stripL, AVal.strip, freeL, AVal.free, fillR, chunks, mkV, List.filter]
  have e0' : ¬ (l.length : Int) < 2 := by omega
  by_cases e1 : 10 < l.length
  · have e1' : (10 : Int) < l.length := by omega
    have e : tabErr l = (0, 8) := by simp [tabErr, e0, e1]
    rw [e]
    simp [xf121, hl, h1, h.xlen, h.strip, h.free, h.one, e0', e1', h58, h59, firstNZ, xresult, xrets, Store.empty, Store.new, Store.put, Store.get, look, putL, setR, Store.only, Store.merge, touch, wrote, upTo, isIn, okRec, hits, capsOf, xcaps, stripL, AVal.strip, freeL, AVal.free, fillR, chunks, mkV, List.filter]
  · have e1' : ¬ (10 : Int) < l.length := by omega
    have e : tabErr l = fstIx (kerr l) l.length 0 := by simp [tabErr, e0, e1]
    have hu := h.list (by omega)
    subst hu
    have h60 := t60 hX (g := 143) (a := []) (b := [.iptr [.list 2 (kns l) none] 0]) (e := kerr l) (n := l.length) (fun i hi hz σ => t61 hX hn i hi hz σ) (by omega) rfl (by simp [freeL, AVal.free, kns_free])
    rw [e]
    simp [xf121, hl, h1, h.strip, h.free, h.one, e0', e1', h58, h59, h60, firstNZ, kns_free, xresult, xrets, Store.empty, Store.new, Store.put, Store.get, look, putL, setR, Store.only, Store.merge, touch, wrote, upTo, isIn, okRec, hits, capsOf, xcaps, stripL, AVal.strip, freeL, AVal.free, fillR, chunks, mkV, List.filter]
end
end Go.Proofs.YtbgjmclpahganaaGreat.Eng

/-
  TABLES, C: which are valid, as it is specified.
-/
namespace Go.Proofs.YtbgjmclpahganaaGreat.Eng
set_option linter.unusedSimpArgs false
set_option linter.unusedVariables false

theorem mul_cancel_lt {a b c : Int} (hc : 0 < c) : a * c < b * c ↔ a < b := by
  constructor
  · intro h
    by_cases h' : a < b
    · exact h'
    · have := Int.mul_le_mul_of_nonneg_right (show b ≤ a by omega) (Int.le_of_lt hc); omega
  · intro h; exact Int.mul_lt_mul_of_pos_right h hc
/-- Reduced fractions compare as they did. -/
theorem red_lt {n d n' d' m e m' e' : Int} (hd : 0 < d) (he : 0 < e) (h1 : Red n d n' d') (h2 : Red m e m' e') : n' * e' < m' * d' ↔ n * e < m * d := by
  obtain ⟨p1, q1, _, _⟩ := h1
  obtain ⟨p2, q2, _, _⟩ := h2
  have l1 : n' * e' * (d * e) = n * e * (d' * e') := by
    calc n' * e' * (d * e) = n' * d * (e' * e) := by ac_rfl
      _ = n * d' * (e' * e) := by rw [q1]
      _ = n * e * (d' * e') := by ac_rfl
  have l2 : m' * d' * (d * e) = m * d * (d' * e') := by
    calc m' * d' * (d * e) = m' * e * (d' * d) := by ac_rfl
      _ = m * e' * (d' * d) := by rw [q2]
      _ = m * d * (d' * e') := by ac_rfl
  rw [← mul_cancel_lt (Int.mul_pos hd he), l1, l2, mul_cancel_lt (Int.mul_pos p1 p2)]
/-- A fraction rounded down depends on its value alone. -/
theorem floor_cross {n d m e : Int} (hd : 0 < d) (he : 0 < e) (h : n * e = m * d) : n / d = m / e := by
  rw [← Int.mul_ediv_mul_of_pos_left n d he, h, Int.mul_comm d e, Int.mul_ediv_mul_of_pos_left m e hd]

section
variable {X : FuncId → Option XFunc} (hX : TabCode X)
include hX

theorem t74 {l : List Kn} {v : AVal} (h : KL l v) {i : Nat} (hi : 0 < i) (hl' : i < l.length) (hn : l.length ≤ 1000000) (r1 : InR (kat l (i - 1))) (r2 : InR (kat l i)) (hne : (kat l i).1 ≠ (kat l (i - 1)).1) :
    ∃ w, IsQ ((kat l i).2 - (kat l (i - 1)).2) ((kat l i).1 - (kat l (i - 1)).1) w ∧ ∀ σ, Run X (.call 119) [.agg [v], .int .i64 i] σ = some (.ret, [w], σ) := by
  have := h.list (by omega)
  subst this
  refine call2E hX.h119 (by simp [AVal.strip, stripL, AVal.free, freeL, kns_strip, kns_free]) rfl (by decide) fun tm hl h0 h1 => ?_
  simp only [AVal.strip, stripL, kns_strip] at h0 h1
  replace hl : tm.length = 29 := hl
  have g1 := kns_getElem? (l := l) (i := i) hl'
  have g2 := kns_getElem? (l := l) (i := i - 1) (by omega)
  have w1 : IntKind.i64.wrap ((i : Int) - 1) = ((i - 1 : Nat) : Int) := by rw [wrap_i64] <;> omega
  have dd := diff_ok r1 r2
  unfold InR at r1 r2
  obtain ⟨w, w1', w2⟩ := w116 hX.wide (n := (kat l i).2 - (kat l (i - 1)).2) (d := (kat l i).1 - (kat l (i - 1)).1) (by omega) (by omega) (by omega) (by omega) (by omega)
  have := IsQ.told _ w1'
  obtain ⟨_, _, _, e1, f1, e2, f2, rfl, j1, j2, _⟩ := w1'
  generalize Told (IsQ ((kat l i).2 - (kat l (i - 1)).2) ((kat l i).1 - (kat l (i - 1)).1)) = Φ at this ⊢
  unfold GivesE
  simp [xf119, hl, h0, h1, g1, g2, w1, dd, w2, Kn.enc, j1.one, j2.one, Store.empty, Store.new, Store.put, Store.get, look, putL, setR, Store.only, Store.merge, touch, wrote, upTo, isIn, okRec, hits, capsOf, xcaps, stripL, AVal.strip, freeL, AVal.free, fillR, chunks, mkV, List.filter]
  exact this

def P18 (l : List Kn) (v : AVal) (r : Int × Int) (tm' : List AVal) (σ' : Store) : Prop := tm'.length = 76 ∧ (r.2 ≠ 0 → XOpd.eval tm' (.t 2) = .int .i64 r.1 ∧ XOpd.eval tm' (.t 3) = .int .i64 r.2)
theorem loop18 {l : List Kn} (hn : l.length ≤ 1000000) : ∀ (k i : Nat), i + k = l.length → (∀ j, j < i → kerr l j = 0) → ∀ (tm : List AVal) (σ : Store), tm.length = 76 → XOpd.eval tm (.t 1) = .ptr 0 0 → XOpd.eval tm (.t 4) = .int .i64 i → σ.get 0 = some (.cells [.list 2 (kns l) none]) → 1 ≤ σ.next →
    Ends (Run X (.code (.loop xf88l0)) tm σ) (if (fstIx (kerr l) k i).2 = 0 then .exit 0 else .ret) (P18 l (.list 2 (kns l) none) (fstIx (kerr l) k i)) := by
  intro k
  induction k with
  | zero =>
    intro i hk hz tm σ hl h1 h4 g0 gn
    have hi : i = l.length := by omega
    subst hi
    have fin : ∀ t, t.length = 76 → P18 l (.list 2 (kns l) none) (0, 0) t σ := fun t k1 => ⟨k1, fun h => absurd rfl h⟩
    rw [Run_loop]
    simp [xf88l0, hl, h1, h4, g0, fstIx]
    refine fin _ ?_; simp [hl]
  | succ k ih =>
    intro i hk hz tm σ hl h1 h4 g0 gn
    have hi : i < l.length := by omega
    have hw : IntKind.i64.wrap ((i : Int) + 1) = ((i + 1 : Nat) : Int) := by rw [wrap_i64] <;> omega
    have g1 := kns_getElem? (l := l) (i := i) hi
    have h25 := sea25 hX.sea
    have hin : ∀ j, j < i → InR (kat l j) := fun j hj => by
      have := hz j hj
      unfold kerr at this
      split at this
      · omega
      · rename_i h; exact kbad_false (by simpa using h)
    have n0 : ¬ σ.next = 0 := by omega
    have n0' : ¬ 0 = σ.next := by omega
    have go : kerr l i = 0 → (fstIx (kerr l) (k + 1) i = fstIx (kerr l) k (i + 1)) ∧ ∀ tm σ, tm.length = 76 → XOpd.eval tm (.t 1) = .ptr 0 0 → XOpd.eval tm (.t 4) = .int .i64 ((i : Int) + 1) → σ.get 0 = some (.cells [.list 2 (kns l) none]) → 1 ≤ σ.next → Ends (Run X (.code (.loop xf88l0)) tm σ) (if (fstIx (kerr l) k (i + 1)).2 = 0 then .exit 0 else .ret) (P18 l (.list 2 (kns l) none) (fstIx (kerr l) k (i + 1))) := fun he =>
      ⟨by simp only [fstIx, he, if_true], fun tm σ a b c d e => ih (i + 1) (by omega) (fun j hj => by
        by_cases h : j = i
        · rw [h]; exact he
        · exact hz j (by omega)) tm σ a b (by rw [c]; rfl) d e⟩
    have stop : ∀ c : Int, kerr l i = c → c ≠ 0 → fstIx (kerr l) (k + 1) i = ((i : Int), c) := fun c h1 h2 => by simp only [fstIx, h1, h2, if_false]
    have fin : ∀ c : Int, ∀ t σ, t.length = 76 → XOpd.eval t (.t 2) = .int .i64 i → XOpd.eval t (.t 3) = .int .i64 c → P18 l (.list 2 (kns l) none) ((i : Int), c) t σ := fun c t σ k1 k2 k3 => ⟨k1, fun _ => ⟨k2, k3⟩⟩
    rw [Run_loop]
    cases c1 : wi (kat l i).1 0 1000000
    · rw [stop 2 (by simp [kerr, kbad, c1]) (by omega)]
      simp [xf88l0, hl, h1, h4, g0, g1, hi, h25, c1, n0, n0', Kn.enc, put_next, new_next, Store.get_new, Store.get_put, put_get, setR, only_get, merge_get', only_next, merge_next, upTo_self, upTo_one, merge_only, touch, wrote, isIn, okRec, hits, capsOf, xcaps, stripL, AVal.strip, freeL, AVal.free, fillR, chunks, mkV]
      refine fin 2 _ _ ?_ ?_ ?_ <;> simp [hl]
    cases c2 : wi (kat l i).2 0 1000000000
    · rw [stop 2 (by simp [kerr, kbad, c2]) (by omega)]
      simp [xf88l0, hl, h1, h4, g0, g1, hi, h25, c1, c2, n0, n0', Kn.enc, put_next, new_next, Store.get_new, Store.get_put, put_get, setR, only_get, merge_get', only_next, merge_next, upTo_self, upTo_one, merge_only, touch, wrote, isIn, okRec, hits, capsOf, xcaps, stripL, AVal.strip, freeL, AVal.free, fillR, chunks, mkV]
      refine fin 2 _ _ ?_ ?_ ?_ <;> simp [hl]
    have hb : kbad (kat l i) = false := by simp [kbad, c1, c2]
    have hr := kbad_false hb
    by_cases c3 : i = 0
    · have e : kerr l i = 0 := by unfold kerr; rw [if_neg (by simp [hb]), if_pos c3]
      obtain ⟨e1, e2⟩ := go e
      rw [e1]
      subst c3
      generalize fstIx (kerr l) k (0 + 1) = r at e2 ⊢
      simp [xf88l0, hl, h1, h4, g0, g1, hi, h25, c1, c2, n0, n0', Kn.enc, put_next, new_next, Store.get_new, Store.get_put, put_get, setR, only_get, merge_get', only_next, merge_next, upTo_self, upTo_one, merge_only, touch, wrote, isIn, okRec, hits, capsOf, xcaps, stripL, AVal.strip, freeL, AVal.free, fillR, chunks, mkV]
      refine e2 _ _ ?_ ?_ ?_ ?_ ?_ <;> simp [hl, h1, g0, n0, n0', put_next, new_next, Store.get_new, Store.get_put, put_get]
    have c3' : ¬ (i : Int) = 0 := by omega
    have w2 : IntKind.i64.wrap ((i : Int) - 1) = ((i - 1 : Nat) : Int) := by rw [wrap_i64] <;> omega
    have g2 := kns_getElem? (l := l) (i := i - 1) (by omega)
    have r1 := hin (i - 1) (by omega)
    by_cases c5 : (kat l i).1 ≤ (kat l (i - 1)).1
    · rw [stop 9 (by unfold kerr; rw [if_neg (by simp [hb]), if_neg c3, if_pos (.inl c5)]) (by omega)]
      simp [xf88l0, hl, h1, h4, g0, g1, g2, hi, h25, c1, c2, c3, c5, w2, n0, n0', Kn.enc, put_next, new_next, Store.get_new, Store.get_put, put_get, setR, only_get, merge_get', only_next, merge_next, upTo_self, upTo_one, merge_only, touch, wrote, isIn, okRec, hits, capsOf, xcaps, stripL, AVal.strip, freeL, AVal.free, fillR, chunks, mkV]
      refine fin 9 _ _ ?_ ?_ ?_ <;> simp [hl]
    by_cases c6 : (kat l i).2 ≤ (kat l (i - 1)).2
    · rw [stop 9 (by unfold kerr; rw [if_neg (by simp [hb]), if_neg c3, if_pos (.inr c6)]) (by omega)]
      simp [xf88l0, hl, h1, h4, g0, g1, g2, hi, h25, c1, c2, c3, c5, c6, w2, n0, n0', Kn.enc, put_next, new_next, Store.get_new, Store.get_put, put_get, setR, only_get, merge_get', only_next, merge_next, upTo_self, upTo_one, merge_only, touch, wrote, isIn, okRec, hits, capsOf, xcaps, stripL, AVal.strip, freeL, AVal.free, fillR, chunks, mkV]
      refine fin 9 _ _ ?_ ?_ ?_ <;> simp [hl]
    have c56 : ¬ ((kat l i).1 ≤ (kat l (i - 1)).1 ∨ (kat l i).2 ≤ (kat l (i - 1)).2) := by omega
    by_cases c7 : 1 < i
    · have c7' : (1 : Int) < (i : Int) := by omega
      have r2 := hin (i - 2) (by omega)
      have hz1 := hz (i - 1) (by omega)
      have hlt : (kat l (i - 2)).1 < (kat l (i - 1)).1 ∧ (kat l (i - 2)).2 < (kat l (i - 1)).2 := by
        unfold kerr at hz1
        split at hz1
        · omega
        · rw [if_neg (by omega), show i - 1 - 1 = i - 2 from by omega] at hz1
          split at hz1
          · omega
          · omega
      obtain ⟨u, ⟨n', d', k1, k2⟩, u2⟩ := t74 hX (l := l) (v := .list 2 (kns l) none) (.inr rfl) (i := i) (by omega) hi hn r1 hr (by omega)
      obtain ⟨v, ⟨m', e', k3, k4⟩, v2⟩ := t74 hX (l := l) (v := .list 2 (kns l) none) (.inr rfl) (i := i - 1) (by omega) (by omega) hn (by rw [show i - 1 - 1 = i - 2 from by omega]; exact r2) r1 (by rw [show i - 1 - 1 = i - 2 from by omega]; omega)
      rw [show i - 1 - 1 = i - 2 from by omega] at k3
      have ee := pw_le (k := 2) (m := 15) (by omega)
      have e2' : pw 2 = 1000000000000000000 := rfl
      have s1 := k1.2.2; have s2 := k3.2.2
      have p1 := k1.1; have p2 := k3.1
      have b1 : ab ((kat l i).2 - (kat l (i - 1)).2) < pw 15 := by unfold InR at *; unfold ab; split <;> omega
      have b2 : ab ((kat l i).1 - (kat l (i - 1)).1) < pw 15 := by unfold InR at *; unfold ab; split <;> omega
      have b3 : ab ((kat l (i - 1)).2 - (kat l (i - 2)).2) < pw 15 := by unfold InR at *; unfold ab; split <;> omega
      have b4 : ab ((kat l (i - 1)).1 - (kat l (i - 2)).1) < pw 15 := by unfold InR at *; unfold ab; split <;> omega
      have q1 : ab d' = d' := ab_pos (by omega)
      have q2 : ab e' = e' := ab_pos (by omega)
      have h73 := w73 hX.wide k2 k4 (by omega) (by omega) (by omega) (by omega)
      have hcmp := red_lt (by omega) (by omega) k1 k3
      have f1 := k2.strip; have f2 := k2.free; have f3 := k4.strip; have f4 := k4.free
      cases c8 : lessA (kat l (i - 2)) (kat l (i - 1)) (kat l i)
      · have hs : ¬ sgn (n' * e' - m' * d') < 0 := by
          simp only [lessA, decide_eq_false_iff_not] at c8
          rw [← hcmp] at c8
          rcases sgn_cases (n' * e' - m' * d') with h | h | h <;> omega
        obtain ⟨e1, e2⟩ := go (by unfold kerr; rw [if_neg (by simp [hb]), if_neg c3, if_neg c56, if_neg (by simp [c8])])
        rw [e1]
        generalize fstIx (kerr l) k (i + 1) = r at e2 ⊢
        simp [xf88l0, hl, h1, h4, g0, g1, g2, hi, h25, c1, c2, c3, c5, c6, c7', w2, hw, u2, v2, h73, hs, f1, f2, f3, f4, kns_free, kns_strip, n0, n0', Kn.enc, put_next, new_next, Store.get_new, Store.get_put, put_get, setR, only_get, merge_get', only_next, merge_next, upTo_self, upTo_one, merge_only, touch, wrote, isIn, okRec, hits, capsOf, xcaps, stripL, AVal.strip, freeL, AVal.free, fillR, chunks, mkV]
        refine e2 _ _ ?_ ?_ ?_ ?_ ?_ <;> simp [hl, h1, g0, n0, n0', put_next, new_next, Store.get_new, Store.get_put, put_get]
      · have hs : sgn (n' * e' - m' * d') < 0 := by
          simp only [lessA, decide_eq_true_eq] at c8
          rw [← hcmp] at c8
          rcases sgn_cases (n' * e' - m' * d') with h | h | h <;> omega
        rw [stop 22 (by unfold kerr; rw [if_neg (by simp [hb]), if_neg c3, if_neg c56, if_pos ⟨c7, c8⟩]) (by omega)]
        simp [xf88l0, hl, h1, h4, g0, g1, g2, hi, h25, c1, c2, c3, c5, c6, c7', w2, hw, u2, v2, h73, hs, f1, f2, f3, f4, kns_free, kns_strip, n0, n0', Kn.enc, put_next, new_next, Store.get_new, Store.get_put, put_get, setR, only_get, merge_get', only_next, merge_next, upTo_self, upTo_one, merge_only, touch, wrote, isIn, okRec, hits, capsOf, xcaps, stripL, AVal.strip, freeL, AVal.free, fillR, chunks, mkV]
        refine fin 22 _ _ ?_ ?_ ?_ <;> simp [hl]
    · have c7' : ¬ (1 : Int) < (i : Int) := by omega
      obtain ⟨e1, e2⟩ := go (by unfold kerr; rw [if_neg (by simp [hb]), if_neg c3, if_neg c56, if_neg (by omega)])
      rw [e1]
      generalize fstIx (kerr l) k (i + 1) = r at e2 ⊢
      simp [xf88l0, hl, h1, h4, g0, g1, g2, hi, h25, c1, c2, c3, c5, c6, c7', w2, hw, n0, n0', Kn.enc, put_next, new_next, Store.get_new, Store.get_put, put_get, setR, only_get, merge_get', only_next, merge_next, upTo_self, upTo_one, merge_only, touch, wrote, isIn, okRec, hits, capsOf, xcaps, stripL, AVal.strip, freeL, AVal.free, fillR, chunks, mkV]
      refine e2 _ _ ?_ ?_ ?_ ?_ ?_ <;> simp [hl, h1, g0, n0, n0', put_next, new_next, Store.get_new, Store.get_put, put_get]

theorem t18 {l : List Kn} {v : AVal} (h : KL l v) (hn : l.length ≤ 1000000) (σ : Store) : Run X (.call 88) [.agg [v]] σ = some (.ret, [.tup [.int .i64 (tabErr l).1, .int .i64 (tabErr l).2]], σ) := by
  refine call1 (v := .tup [.int .i64 (tabErr l).1, .int .i64 (tabErr l).2]) hX.h88 (by simp [AVal.strip, stripL, AVal.free, freeL, h.strip, h.free]) (by decide) (fun tm hl h1 => ?_) rfl σ
  simp only [AVal.strip, stripL, h.strip] at h1
  replace hl : tm.length = 76 := hl
  unfold Gives
  by_cases e0 : l.length < 2
  · have e0' : (l.length : Int) < 2 := by omega
    have e : tabErr l = (0, 10) := by simp [tabErr, e0]
    rw [e]
    simp [xf88, hl, h1, h.xlen, e0', xresult, xrets, Store.empty, Store.new, Store.put, Store.get, look, putL, setR, Store.only, Store.merge, touch, wrote, upTo, isIn, okRec, hits, capsOf, xcaps, stripL, AVal.strip, freeL, AVal.free, fillR, chunks, mkV, List.filter]
  have e0' : ¬ (l.length : Int) < 2 := by omega
  by_cases e1 : 10 < l.length
  · have e1' : (10 : Int) < l.length := by omega
    have e : tabErr l = (0, 8) := by simp [tabErr, e0, e1]
    rw [e]
    simp [xf88, hl, h1, h.xlen, e0', e1', xresult, xrets, Store.empty, Store.new, Store.put, Store.get, look, putL, setR, Store.only, Store.merge, touch, wrote, upTo, isIn, okRec, hits, capsOf, xcaps, stripL, AVal.strip, freeL, AVal.free, fillR, chunks, mkV, List.filter]
  · have e1' : ¬ (10 : Int) < l.length := by omega
    have e : tabErr l = fstIx (kerr l) l.length 0 := by simp [tabErr, e0, e1]
    have hu := h.list (by omega)
    subst hu
    rw [e]
    simp [xf88, hl, h1, e0', e1', Store.empty, Store.new, Store.put, Store.get, look, putL, setR, Store.only, Store.merge, touch, wrote, upTo, isIn, okRec, hits, capsOf, xcaps, stripL, AVal.strip, freeL, AVal.free, fillR, chunks, mkV, List.filter]
    generalize hR : Run X (.code (.loop xf88l0)) _ _ = R
    have hE : Ends R (if (fstIx (kerr l) l.length 0).2 = 0 then .exit 0 else .ret) (P18 l (.list 2 (kns l) none) (fstIx (kerr l) l.length 0)) := by
      rw [← hR]
      refine loop18 hX hn l.length 0 (by omega) (by omega) _ _ ?_ ?_ ?_ ?_ ?_ <;> simp [hl, Store.get, look]
    clear hR
    have hz := fstIx_zero (e := kerr l) l.length 0
    generalize fstIx (kerr l) l.length 0 = r at *
    obtain ⟨tm', σ', rfl, k1, k2⟩ := hE
    by_cases hr : r.2 = 0
    · simp [k1, hr, hz hr, xresult, xrets]
    · obtain ⟨k3, k4⟩ := k2 hr
      simp [k1, k3, k4, hr, xresult, xrets]
theorem t24 {l : List Kn} {v : AVal} (h : KL l v) (hn : l.length ≤ 1000000) (σ : Store) : Run X (.call 53) [.agg [v]] σ = some (.ret, [.int .i64 (tabErr l).2], σ) := by
  have t1 := t18 hX h hn
  refine call1 (v := .int .i64 (tabErr l).2) hX.h53 (by simp [AVal.strip, stripL, AVal.free, freeL, h.strip, h.free]) (by decide) (fun tm hl h1 => ?_) rfl σ
  simp only [AVal.strip, stripL, h.strip] at h1
  replace hl : tm.length = 11 := hl
  unfold Gives
  simp [xf53, hl, h1, t1, Store.empty, Store.new, Store.put, Store.get, look, putL, setR, Store.only, Store.merge, touch, wrote, upTo, isIn, okRec, hits, capsOf, xcaps, stripL, AVal.strip, freeL, AVal.free, fillR, chunks, mkV, List.filter]
theorem t63 {l : List Kn} {v : AVal} (h : KL l v) (hn : l.length ≤ 1000000) (σ : Store) : Run X (.call 91) [.agg [v]] σ = some (.ret, [.tup [.agg [v], .int .i64 (tabErr l).2]], σ) := by
  have t1 := t13 hX h hn
  have hs : (AVal.tup [.agg [v], .int .i64 (tabErr l).2]).strip = .tup [.agg [v], .int .i64 (tabErr l).2] := by simp [AVal.strip, stripL, h.strip]
  have := call1 (X := X) (a := .agg [v]) (v := .tup [.agg [v], .int .i64 (tabErr l).2]) hX.h91 (by simp [AVal.strip, stripL, AVal.free, freeL, h.strip, h.free]) (by decide) (fun tm hl h1 => ?_) (by rw [hs]; simp [AVal.free, freeL, h.free]) σ
  · rwa [hs] at this
  simp only [AVal.strip, stripL, h.strip] at h1
  replace hl : tm.length = 14 := hl
  unfold Gives
  simp [xf91, hl, h1, t1, h.one, xresult, xrets, Store.empty, Store.new, Store.put, Store.get, look, putL, setR, Store.only, Store.merge, touch, wrote, upTo, isIn, okRec, hits, capsOf, xcaps, stripL, AVal.strip, freeL, AVal.free, fillR, chunks, mkV, List.filter]
def tabWith (l : List Kn) (n : Int) : Int := if (tabErr l).2 = 0 then (if isVol l n then 0 else 2) else (tabErr l).2
omit hX in
theorem tabErr_len {l : List Kn} (h : (tabErr l).2 = 0) : 1 < l.length ∧ l.length ≤ 10 := by
  unfold tabErr at h
  split at h
  · simp at h
  · split at h
    · simp at h
    · omega
theorem t67 {l : List Kn} {v : AVal} (h : KL l v) (hn : l.length ≤ 1000000) (n : Int) (σ : Store) : Run X (.call 67) [.agg [v], .int .i64 n] σ = some (.ret, [.tup [.agg [v], .int .i64 (tabWith l n)]], σ) := by
  have t1 := t63 hX h hn
  have hs : (AVal.tup [.agg [v], .int .i64 (tabWith l n)]).strip = .tup [.agg [v], .int .i64 (tabWith l n)] := by simp [AVal.strip, stripL, h.strip]
  have := call2 (X := X) (a := .agg [v]) (b := .int .i64 n) (v := .tup [.agg [v], .int .i64 (tabWith l n)]) hX.h67 (by simp [AVal.strip, stripL, AVal.free, freeL, h.strip, h.free]) rfl (by decide) (fun tm hl h1 h2 => ?_) (by rw [hs]; simp [AVal.free, freeL, h.free]) σ
  · rwa [hs] at this
  simp only [AVal.strip, stripL, h.strip] at h1 h2
  replace hl : tm.length = 23 := hl
  unfold Gives
  by_cases e : (tabErr l).2 = 0
  · have t2 := t112 hX h (by have := tabErr_len e; omega) hn n
    cases c : isVol l n <;> simp [xf67, hl, h1, h2, t1, t2, e, c, tabWith, h.one, xresult, xrets, Store.empty, Store.new, Store.put, Store.get, look, putL, setR, Store.only, Store.merge, touch, wrote, upTo, isIn, okRec, hits, capsOf, xcaps, stripL, AVal.strip, freeL, AVal.free, fillR, chunks, mkV, List.filter]
  · simp [xf67, hl, h1, h2, t1, e, tabWith, h.one, xresult, xrets, Store.empty, Store.new, Store.put, Store.get, look, putL, setR, Store.only, Store.merge, touch, wrote, upTo, isIn, okRec, hits, capsOf, xcaps, stripL, AVal.strip, freeL, AVal.free, fillR, chunks, mkV, List.filter]
end
end Go.Proofs.YtbgjmclpahganaaGreat.Eng

/-
  TABLES, D: pieces, levels and volumes, as the program finds them.
-/
namespace Go.Proofs.YtbgjmclpahganaaGreat.Eng
set_option linter.unusedSimpArgs false
set_option linter.unusedVariables false

/-- What is known of a valid table. -/
structure Tab (l : List Kn) : Prop where
  err : (tabErr l).2 = 0
  two : 1 < l.length
  ten : l.length ≤ 10
  inr : ∀ i, i < l.length → InR (kat l i)
  inc : ∀ i, 0 < i → i < l.length → (kat l (i - 1)).1 < (kat l i).1 ∧ (kat l (i - 1)).2 < (kat l i).2
  area : ∀ i, 1 < i → i < l.length → lessA (kat l (i - 2)) (kat l (i - 1)) (kat l i) = false
theorem fstIx_all {e : Nat → Int} : ∀ k i, (fstIx e k i).2 = 0 → ∀ j, i ≤ j → j < i + k → e j = 0
  | 0, i, _, j, h1, h2 => by omega
  | k + 1, i, h, j, h1, h2 => by
    simp only [fstIx] at h
    split at h
    · rename_i h0
      by_cases hj : j = i
      · rw [hj]; exact h0
      · exact fstIx_all k (i + 1) h j (by omega) (by omega)
    · rename_i h0; exact absurd h h0
theorem tab_of {l : List Kn} (h : (tabErr l).2 = 0) : Tab l := by
  have hl := tabErr_len h
  have hz : ∀ j, j < l.length → kerr l j = 0 := by
    unfold tabErr at h
    rw [if_neg (by omega), if_neg (by omega)] at h
    exact fun j hj => fstIx_all _ _ h j (by omega) (by omega)
  refine ⟨h, hl.1, hl.2, fun i hi => ?_, fun i h0 hi => ?_, fun i h0 hi => ?_⟩
  · have := hz i hi
    unfold kerr at this
    split at this
    · omega
    · rename_i h; exact kbad_false (by simpa using h)
  · have := hz i hi
    unfold kerr at this
    split at this
    · omega
    · rw [if_neg (by omega)] at this
      split at this
      · omega
      · omega
  · have := hz i hi
    unfold kerr at this
    split at this
    · omega
    · rw [if_neg (by omega)] at this
      split at this
      · omega
      · split at this
        · omega
        · rename_i h; cases hc : lessA (kat l (i - 2)) (kat l (i - 1)) (kat l i) with
          | false => rfl
          | true => exact absurd ⟨h0, hc⟩ h
/-- The first that is high enough. -/
def upF (g : Nat → Int) (x : Int) : Nat → Nat → Nat
  | 0, i => i
  | k + 1, i => if g i < x then upF g x k (i + 1) else i
theorem upF_ge (g : Nat → Int) (x : Int) : ∀ k i, i ≤ upF g x k i ∧ upF g x k i ≤ i + k
  | 0, i => by simp [upF]
  | k + 1, i => by
    simp only [upF]
    have := upF_ge g x k (i + 1)
    split <;> omega
def upIx (g : Nat → Int) (n : Nat) (x : Int) : Nat := upF g x (n - 2) 1
theorem upIx_ok (g : Nat → Int) {n : Nat} (x : Int) (h : 1 < n) : 1 ≤ upIx g n x ∧ upIx g n x < n := by
  have := upF_ge g x (n - 2) 1
  unfold upIx; omega
/-- What stands at the place. -/
theorem upF_spec (g : Nat → Int) (x : Int) : ∀ k i, g (i + k) ≥ x → x ≤ g (upF g x k i) ∧ ∀ j, i ≤ j → j < upF g x k i → g j < x
  | 0, i, h => ⟨by simpa [upF] using h, fun j h1 h2 => by simp [upF] at h2; omega⟩
  | k + 1, i, h => by
    simp only [upF]
    split
    · rename_i hg
      have := upF_spec g x k (i + 1) (by rw [show i + 1 + k = i + (k + 1) from by omega]; exact h)
      refine ⟨this.1, fun j h1 h2 => ?_⟩
      by_cases hj : j = i
      · rw [hj]; exact hg
      · exact this.2 j (by omega) h2
    · exact ⟨by omega, fun j h1 h2 => by omega⟩

section
variable {X : FuncId → Option XFunc} (hX : TabCode X)
include hX

def P108 (l : List Kn) (j : Nat) (tm' : List AVal) (σ' : Store) : Prop := tm'.length = 40 ∧ XOpd.eval tm' (.t 2) = .ptr 0 0 ∧ XOpd.eval tm' (.t 4) = .ptr 1 0 ∧ XOpd.eval tm' (.t 5) = .int .i64 j ∧ σ'.get 0 = some (.cells [.list 2 (kns l) none]) ∧ σ'.get 1 = some (.cells [.int .i64 0, .int .i64 0, .int .i64 0, .int .i64 0])
omit hX in
theorem loop108 {l : List Kn} {f : FuncId} {b : List AVal} {g : Nat → Int} {x : Int} (hF : ∀ i, i < l.length → ∀ σ, Run X (.call f) ((kat l i).enc :: b) σ = some (.ret, [.bool (decide (x ≤ g i))], σ)) (hn : l.length ≤ 1000000) :
    ∀ (k i : Nat), i + k + 1 = l.length → ∀ (tm : List AVal) (σ : Store), tm.length = 40 → XOpd.eval tm (.t 1) = .fn f [] b → XOpd.eval tm (.t 2) = .ptr 0 0 → XOpd.eval tm (.t 4) = .ptr 1 0 → XOpd.eval tm (.t 5) = .int .i64 i → σ.get 0 = some (.cells [.list 2 (kns l) none]) → σ.get 1 = some (.cells [.int .i64 0, .int .i64 0, .int .i64 0, .int .i64 0]) →
      Ends (Run X (.code (.loop xf132l0)) tm σ) (.exit 0) (P108 l (upF g x k i)) := by
  intro k
  induction k with
  | zero =>
    intro i hk tm σ hl h1 h2 h4 h5 g0 g1
    have w1 : IntKind.i64.wrap ((l.length : Int) - 1) = ((l.length - 1 : Nat) : Int) := by rw [wrap_i64] <;> omega
    have e : l.length - 1 = i := by omega
    rw [e] at w1
    have fin : ∀ t, t.length = 40 → XOpd.eval t (.t 2) = .ptr 0 0 → XOpd.eval t (.t 4) = .ptr 1 0 → XOpd.eval t (.t 5) = .int .i64 i → P108 l i t σ := fun t k1 k2 k3 k4 => ⟨k1, k2, k3, k4, g0, g1⟩
    rw [Run_loop]
    simp [xf132l0, hl, h1, h2, h4, h5, g0, g1, w1, upF]
    refine fin _ ?_ ?_ ?_ ?_ <;> simp [hl, h2, h4, h5]
  | succ k ih =>
    intro i hk tm σ hl h1 h2 h4 h5 g0 g1
    have w1 : IntKind.i64.wrap ((l.length : Int) - 1) = ((l.length - 1 : Nat) : Int) := by rw [wrap_i64] <;> omega
    have w2 : IntKind.i64.wrap ((i : Int) + 1) = ((i + 1 : Nat) : Int) := by rw [wrap_i64] <;> omega
    have hi : i < l.length := by omega
    have hi2 : i < l.length - 1 := by omega
    have hf := hF i hi
    simp only [Kn.enc] at hf
    have fin : ∀ t, t.length = 40 → XOpd.eval t (.t 2) = .ptr 0 0 → XOpd.eval t (.t 4) = .ptr 1 0 → XOpd.eval t (.t 5) = .int .i64 i → P108 l i t σ := fun t k1 k2 k3 k4 => ⟨k1, k2, k3, k4, g0, g1⟩
    rw [Run_loop]
    by_cases c : g i < x
    · have c' : ¬ x ≤ g i := by omega
      simp only [upF, c, if_true]
      simp [xf132l0, hl, h1, h2, h4, h5, g0, g1, w1, w2, hi, hi2, hf, c', Kn.enc]
      refine ih (i + 1) (by omega) _ _ ?_ ?_ ?_ ?_ ?_ g0 g1 <;> simp [hl, h1, h2, h4]
    · have c' : x ≤ g i := by omega
      simp only [upF, c, if_false]
      simp [xf132l0, hl, h1, h2, h4, h5, g0, g1, w1, w2, hi, hi2, hf, c', Kn.enc]
      refine fin _ ?_ ?_ ?_ ?_ <;> simp [hl, h2, h4, h5]

theorem t108 {l : List Kn} {v : AVal} (h : KL l v) (h2 : 1 < l.length) (hn : l.length ≤ 1000000) {f : FuncId} {b : List AVal} (hb : freeL b = true) {g : Nat → Int} {x : Int} (hF : ∀ i, i < l.length → ∀ σ, Run X (.call f) ((kat l i).enc :: b) σ = some (.ret, [.bool (decide (x ≤ g i))], σ)) (σ : Store) :
    Run X (.call 132) [.agg [v], .fn f [] b] σ = some (.ret, [pc (kat l (upIx g l.length x - 1)) (kat l (upIx g l.length x))], σ) := by
  have := h.list (by omega)
  subst this
  obtain ⟨j1, j2⟩ := upIx_ok g x h2
  refine call2 (v := pc (kat l (upIx g l.length x - 1)) (kat l (upIx g l.length x))) hX.h132 (by simp [AVal.strip, stripL, AVal.free, freeL, kns_strip, kns_free]) (by simp [AVal.strip, stripL, AVal.free, freeL, freeL_strip hb, hb]) (by decide) (fun tm hl h0 h1 => ?_) rfl σ
  simp only [AVal.strip, stripL, kns_strip, freeL_strip hb] at h0 h1
  replace hl : tm.length = 40 := hl
  unfold Gives
  simp [xf132, hl, h0, h1, Store.empty, Store.new, Store.put, Store.get, look, putL, setR, Store.only, Store.merge, touch, wrote, upTo, isIn, okRec, hits, capsOf, xcaps, stripL, AVal.strip, freeL, AVal.free, fillR, chunks, mkV, List.filter]
  generalize hR : Run X (.code (.loop xf132l0)) _ _ = R
  have hE : Ends R (.exit 0) (P108 l (upIx g l.length x)) := by
    rw [← hR]
    refine loop108 hF hn (l.length - 2) 1 (by omega) _ _ ?_ ?_ ?_ ?_ ?_ ?_ ?_ <;> simp [hl, h1, Store.get, look]
  clear hR
  generalize upIx g l.length x = j at *
  obtain ⟨tm', σ', rfl, k1, k2, k3, k4, k5, k6⟩ := hE
  have w1 : IntKind.i64.wrap ((j : Int) - 1) = ((j - 1 : Nat) : Int) := by rw [wrap_i64] <;> omega
  have j3 : j - 1 < l.length := by omega
  simp [k1, k2, k3, k4, k5, k6, w1, j2, j3, pc, Kn.enc, put_next, new_next, Store.get_new, Store.get_put, put_get, setR, only_get, merge_get', only_next, merge_next, upTo_self, upTo_one, merge_only, touch, wrote, isIn, okRec, hits, capsOf, xcaps, stripL, AVal.strip, freeL, AVal.free, fillR, chunks, mkV]

theorem t109 (k : Kn) (x : Int) (σ : Store) : Run X (.call 150) [k.enc, .iptr [.int .i64 x] 0] σ = some (.ret, [.bool (decide (x ≤ k.1))], σ) := by
  refine call2 (v := .bool (decide (x ≤ k.1))) hX.h150 rfl rfl (by decide) (fun tm hl h0 h1 => ?_) rfl σ
  simp only [AVal.strip, stripL, Kn.enc] at h0 h1
  replace hl : tm.length = 8 := hl
  unfold Gives
  simp [xf150, hl, h0, h1, Store.empty, Store.new, Store.put, Store.get, look, putL, setR, Store.only, Store.merge, touch, wrote, upTo, isIn, okRec, hits, capsOf, xcaps, stripL, AVal.strip, freeL, AVal.free, fillR, chunks, mkV, List.filter]
theorem t113 (k : Kn) (x : Int) (σ : Store) : Run X (.call 133) [k.enc, .iptr [.int .i64 x] 0] σ = some (.ret, [.bool (decide (x ≤ k.2))], σ) := by
  refine call2 (v := .bool (decide (x ≤ k.2))) hX.h133 rfl rfl (by decide) (fun tm hl h0 h1 => ?_) rfl σ
  simp only [AVal.strip, stripL, Kn.enc] at h0 h1
  replace hl : tm.length = 8 := hl
  unfold Gives
  simp [xf133, hl, h0, h1, Store.empty, Store.new, Store.put, Store.get, look, putL, setR, Store.only, Store.merge, touch, wrote, upTo, isIn, okRec, hits, capsOf, xcaps, stripL, AVal.strip, freeL, AVal.free, fillR, chunks, mkV, List.filter]
def lix (l : List Kn) (x : Int) : Nat := upIx (fun i => (kat l i).1) l.length x
def vix (l : List Kn) (x : Int) : Nat := upIx (fun i => (kat l i).2) l.length x
theorem t69 {l : List Kn} {v : AVal} (h : KL l v) (h2 : 1 < l.length) (hn : l.length ≤ 1000000) (x : Int) (σ : Store) : Run X (.call 109) [.agg [v], .int .i64 x] σ = some (.ret, [pc (kat l (vix l x - 1)) (kat l (vix l x))], σ) := by
  have t1 := t108 hX h h2 hn (f := 133) (b := [.iptr [.int .i64 x] 0]) rfl (g := fun i => (kat l i).2) (x := x) (fun i _ σ => t113 hX (kat l i) x σ)
  refine call2 (v := pc (kat l (vix l x - 1)) (kat l (vix l x))) hX.h109 (by simp [AVal.strip, stripL, AVal.free, freeL, h.strip, h.free]) rfl (by decide) (fun tm hl h0 h1 => ?_) rfl σ
  simp only [AVal.strip, stripL, h.strip] at h0 h1
  replace hl : tm.length = 8 := hl
  have e : vix l x = upIx (fun i => (kat l i).2) l.length x := rfl
  rw [e]
  simp only [pc] at t1 ⊢
  unfold Gives
  simp [xf109, hl, h0, h1, t1, h.one, Store.empty, Store.new, Store.put, Store.get, look, putL, setR, Store.only, Store.merge, touch, wrote, upTo, isIn, okRec, hits, capsOf, xcaps, stripL, AVal.strip, freeL, AVal.free, fillR, chunks, mkV, List.filter]
end
end Go.Proofs.YtbgjmclpahganaaGreat.Eng

/-
  TABLES, E: levels, volumes and areas, as the program answers.
-/
namespace Go.Proofs.YtbgjmclpahganaaGreat.Eng
set_option linter.unusedSimpArgs false
set_option linter.unusedVariables false

theorem call5 {X : FuncId → Option XFunc} {f : FuncId} {xf : XFunc} {a b c d e v : AVal} (hx : X f = some xf) (ha : a.strip.free = true) (hb : b.strip.free = true) (hc : c.strip.free = true) (hd : d.strip.free = true) (he : e.strip.free = true) (hn : 5 ≤ xf.ntmps)
    (h : ∀ tm, tm.length = xf.ntmps → XOpd.eval tm (.t 0) = a.strip → XOpd.eval tm (.t 1) = b.strip → XOpd.eval tm (.t 2) = c.strip → XOpd.eval tm (.t 3) = d.strip → XOpd.eval tm (.t 4) = e.strip → Gives X xf tm v) (hv : v.strip.free = true) (σ : Store) : Run X (.call f) [a, b, c, d, e] σ = some (.ret, [v.strip], σ) := by
  refine call_pure hx (by simp [stripL, freeL, ha, hb, hc, hd, he]) (h _ (by simp [stripL]; omega) ?_ ?_ ?_ ?_ ?_) hv σ
  all_goals (rw [eval_frame _ _ _ (by simp [stripL])]; simp [stripL])

theorem isLev_iff {l : List Kn} {n : Int} : isLev l n = true ↔ (kat l 0).1 ≤ n ∧ n ≤ (kat l (l.length - 1)).1 := by simp [isLev, wi]
theorem isVol_iff {l : List Kn} {n : Int} : isVol l n = true ↔ (kat l 0).2 ≤ n ∧ n ≤ (kat l (l.length - 1)).2 := by simp [isVol, wi]
theorem lix_in {l : List Kn} (t : Tab l) {x : Int} (h : isLev l x = true) : 1 ≤ lix l x ∧ lix l x < l.length ∧ (kat l (lix l x - 1)).1 ≤ x ∧ x ≤ (kat l (lix l x)).1 := by
  have h2 := t.two
  obtain ⟨h3, h4⟩ := isLev_iff.1 h
  obtain ⟨h5, h6⟩ := upIx_ok (fun i => (kat l i).1) x t.two
  obtain ⟨h7, h8⟩ := upF_spec (fun i => (kat l i).1) x (l.length - 2) 1 (by simpa [show 1 + (l.length - 2) = l.length - 1 from by omega] using h4)
  refine ⟨h5, h6, ?_, h7⟩
  by_cases h9 : lix l x = 1
  · rw [h9]; exact h3
  · have h5' : 1 ≤ lix l x := h5
    have := h8 (lix l x - 1) (by omega) (by show lix l x - 1 < lix l x; omega)
    exact Int.le_of_lt this
theorem vix_in {l : List Kn} (t : Tab l) {x : Int} (h : isVol l x = true) : 1 ≤ vix l x ∧ vix l x < l.length ∧ (kat l (vix l x - 1)).2 ≤ x ∧ x ≤ (kat l (vix l x)).2 := by
  have h2 := t.two
  obtain ⟨h3, h4⟩ := isVol_iff.1 h
  obtain ⟨h5, h6⟩ := upIx_ok (fun i => (kat l i).2) x t.two
  obtain ⟨h7, h8⟩ := upF_spec (fun i => (kat l i).2) x (l.length - 2) 1 (by simpa [show 1 + (l.length - 2) = l.length - 1 from by omega] using h4)
  refine ⟨h5, h6, ?_, h7⟩
  by_cases h9 : vix l x = 1
  · rw [h9]; exact h3
  · have h5' : 1 ≤ vix l x := h5
    have := h8 (vix l x - 1) (by omega) (by show vix l x - 1 < vix l x; omega)
    exact Int.le_of_lt this

/-- A number on a straight line: whole part, part, divisor; rounded down and up. -/
def sNum (x x0 y0 y1 : Int) : Int := (x - x0) * (y1 - y0)
def sLo (x x0 x1 y0 y1 : Int) : Int := y0 + sNum x x0 y0 y1 / (x1 - x0)
def sHi (x x0 x1 y0 y1 : Int) : Int := if 0 < sNum x x0 y0 y1 % (x1 - x0) then sLo x x0 x1 y0 y1 + 1 else sLo x x0 x1 y0 y1
structure SOk (x x0 x1 y0 y1 : Int) : Prop where
  nx : 0 ≤ x0
  le : x0 ≤ x
  le' : x ≤ x1
  lt : x0 < x1
  big : x1 ≤ 1000000000
  ny : 0 ≤ y0
  lt' : y0 < y1
  big' : y1 ≤ 1000000000
theorem SOk.num {x x0 x1 y0 y1 : Int} (h : SOk x x0 x1 y0 y1) : 0 ≤ sNum x x0 y0 y1 ∧ sNum x x0 y0 y1 ≤ (x1 - x0) * (y1 - y0) ∧ sNum x x0 y0 y1 ≤ 1000000000000000000 := by
  obtain ⟨h1, h2, h3, h4, h5, h6, h7, h8⟩ := h
  unfold sNum
  have q : (x - x0) * (y1 - y0) ≤ (x1 - x0) * (y1 - y0) := Int.mul_le_mul_of_nonneg_right (by omega) (by omega)
  have := prod_ok (x := x - x0) (y := y1 - y0) (by omega) (by omega) (by omega) (by omega)
  exact ⟨Int.mul_nonneg (by omega) (by omega), q, this.2⟩
theorem SOk.lo {x x0 x1 y0 y1 : Int} (h : SOk x x0 x1 y0 y1) : y0 ≤ sLo x x0 x1 y0 y1 ∧ sLo x x0 x1 y0 y1 ≤ y1 ∧ sHi x x0 x1 y0 y1 ≤ y1 ∧ sLo x x0 x1 y0 y1 ≤ sHi x x0 x1 y0 y1 ∧ sHi x x0 x1 y0 y1 ≤ sLo x x0 x1 y0 y1 + 1 := by
  obtain ⟨n0, n1, _⟩ := h.num
  have hd : 0 < x1 - x0 := by have := h.lt; omega
  have e := Int.mul_ediv_add_emod (sNum x x0 y0 y1) (x1 - x0)
  have e1 := Int.emod_nonneg (sNum x x0 y0 y1) (Int.ne_of_gt hd)
  have q0 : 0 ≤ sNum x x0 y0 y1 / (x1 - x0) := Int.ediv_nonneg n0 (by omega)
  have q1 : sNum x x0 y0 y1 / (x1 - x0) ≤ y1 - y0 := Int.ediv_le_of_le_mul hd (by rw [Int.mul_comm (y1 - y0)]; exact n1)
  have q2 : 0 < sNum x x0 y0 y1 % (x1 - x0) → sNum x x0 y0 y1 / (x1 - x0) < y1 - y0 := fun h0 => by
    by_cases h : sNum x x0 y0 y1 / (x1 - x0) < y1 - y0
    · exact h
    · have : sNum x x0 y0 y1 / (x1 - x0) = y1 - y0 := by omega
      rw [this] at e; omega
  unfold sHi sLo
  split
  · rename_i h0; have := q2 h0; omega
  · omega
def volR (l : List Kn) (x : Int) : Kn := (sLo x (kat l (lix l x - 1)).1 (kat l (lix l x)).1 (kat l (lix l x - 1)).2 (kat l (lix l x)).2, sHi x (kat l (lix l x - 1)).1 (kat l (lix l x)).1 (kat l (lix l x - 1)).2 (kat l (lix l x)).2)
def levR (l : List Kn) (x : Int) : Kn := (sLo x (kat l (vix l x - 1)).2 (kat l (vix l x)).2 (kat l (vix l x - 1)).1 (kat l (vix l x)).1, sHi x (kat l (vix l x - 1)).2 (kat l (vix l x)).2 (kat l (vix l x - 1)).1 (kat l (vix l x)).1)
theorem lix_s {l : List Kn} (t : Tab l) {x : Int} (h : isLev l x = true) : SOk x (kat l (lix l x - 1)).1 (kat l (lix l x)).1 (kat l (lix l x - 1)).2 (kat l (lix l x)).2 := by
  obtain ⟨h1, h2, h3, h4⟩ := lix_in t h
  have i1 := t.inr _ h2; have i2 := t.inr (lix l x - 1) (by omega); have i3 := t.inc _ h1 h2
  unfold InR at i1 i2
  exact ⟨by omega, h3, h4, by omega, by omega, by omega, by omega, by omega⟩
theorem vix_s {l : List Kn} (t : Tab l) {x : Int} (h : isVol l x = true) : SOk x (kat l (vix l x - 1)).2 (kat l (vix l x)).2 (kat l (vix l x - 1)).1 (kat l (vix l x)).1 := by
  obtain ⟨h1, h2, h3, h4⟩ := vix_in t h
  have i1 := t.inr _ h2; have i2 := t.inr (vix l x - 1) (by omega); have i3 := t.inc _ h1 h2
  unfold InR at i1 i2
  exact ⟨by omega, h3, h4, by omega, by omega, by omega, by omega, by omega⟩

/-- The greatest common divisor, by remainders. -/
def gcdF : Nat → Int → Int → Int
  | 0, a, _ => a
  | k + 1, a, b => if b = 0 then a else gcdF k b (a % b)
theorem gcdF_pos : ∀ (k : Nat) (a b : Int), 0 ≤ a → 0 ≤ b → b < k → (0 < a ∨ 0 < b) → 0 < gcdF k a b ∧ (gcdF k a b ≤ a ∨ gcdF k a b ≤ b)
  | 0, a, b, ha, hb, hk, h => by omega
  | k + 1, a, b, ha, hb, hk, h => by
    simp only [gcdF]
    split
    · rename_i h0; omega
    · rename_i h0
      have m2 := Int.emod_nonneg a h0
      have m3 := Int.emod_lt_of_pos a (show 0 < b by omega)
      obtain ⟨q1, q2⟩ := gcdF_pos k b (a % b) hb m2 (by omega) (.inl (by omega))
      refine ⟨q1, ?_⟩
      omega
def gcdI (a b : Int) : Int := gcdF (b.toNat + 1) a b
def areaR (l : List Kn) (x : Int) : Kn :=
  let dv := (kat l (vix l x)).2 - (kat l (vix l x - 1)).2
  let dl := (kat l (vix l x)).1 - (kat l (vix l x - 1)).1
  (dv / gcdI dv dl, dl / gcdI dv dl)
theorem gcdI_ok {a b : Int} (ha : 0 < a) (hb : 0 < b) : 0 < gcdI a b := (gcdF_pos _ a b (by omega) (by omega) (by omega) (.inl ha)).1
theorem div_small {a g : Int} (ha : 0 ≤ a) (hg : 0 < g) : 0 ≤ a / g ∧ a / g ≤ a := by
  refine ⟨Int.ediv_nonneg ha (by omega), ?_⟩
  exact Int.ediv_le_self g ha

section
variable {X : FuncId → Option XFunc} (hX : TabCode X)
include hX

theorem t110 {x x0 x1 y0 y1 : Int} (h : SOk x x0 x1 y0 y1) (σ : Store) : Run X (.call 110) [.int .i64 x, .int .i64 x0, .int .i64 x1, .int .i64 y0, .int .i64 y1] σ = some (.ret, [.agg [.int .i64 (sLo x x0 x1 y0 y1), .int .i64 (sNum x x0 y0 y1 % (x1 - x0)), .int .i64 (x1 - x0)]], σ) := by
  obtain ⟨n0, n1, n2⟩ := h.num
  obtain ⟨p1, p2, _⟩ := h.lo
  obtain ⟨h1, h2, h3, h4, h5, h6, h7, h8⟩ := h
  have w1 : IntKind.i64.wrap (x - x0) = x - x0 := by rw [wrap_i64] <;> omega
  have w2 : IntKind.i64.wrap (y1 - y0) = y1 - y0 := by rw [wrap_i64] <;> omega
  have w3 : IntKind.i64.wrap (x1 - x0) = x1 - x0 := by rw [wrap_i64] <;> omega
  have hd : ¬ x1 - x0 = 0 := by omega
  have p1' := p1; have p2' := p2
  unfold sLo at p1' p2'
  unfold sLo
  have hs : (x - x0) * (y1 - y0) = sNum x x0 y0 y1 := rfl
  generalize sNum x x0 y0 y1 = s at *
  have w4 : IntKind.i64.wrap s = s := by rw [wrap_i64] <;> omega
  have q1 : s.tdiv (x1 - x0) = s / (x1 - x0) := Int.tdiv_eq_ediv_of_nonneg n0
  have q2 : s.tmod (x1 - x0) = s % (x1 - x0) := Int.tmod_eq_emod_of_nonneg n0
  have w5 : IntKind.i64.wrap (s / (x1 - x0)) = s / (x1 - x0) := by rw [wrap_i64] <;> omega
  have w6 : IntKind.i64.wrap (y0 + s / (x1 - x0)) = y0 + s / (x1 - x0) := by rw [wrap_i64] <;> omega
  refine call5 (v := .agg [.int .i64 (y0 + s / (x1 - x0)), .int .i64 (s % (x1 - x0)), .int .i64 (x1 - x0)]) hX.h110 rfl rfl rfl rfl rfl (by decide) (fun tm hl a0 a1 a2 a3 a4 => ?_) rfl σ
  simp only [AVal.strip] at a0 a1 a2 a3 a4
  replace hl : tm.length = 33 := hl
  unfold Gives
  simp [xf110, hl, a0, a1, a2, a3, a4, w1, w2, w3, hs, w4, hd, q1, q2, w5, w6, Store.empty, Store.new, Store.put, Store.get, look, putL, setR, Store.only, Store.merge, touch, wrote, upTo, isIn, okRec, hits, capsOf, xcaps, stripL, AVal.strip, freeL, AVal.free, fillR, chunks, mkV, List.filter]
theorem t111 (w p d : Int) (hw : w + 1 ≤ 9223372036854775807) (hw2 : -9223372036854775808 ≤ w) (σ : Store) : Run X (.call 111) [.agg [.int .i64 w, .int .i64 p, .int .i64 d]] σ = some (.ret, [.int .i64 (if 0 < p then w + 1 else w)], σ) := by
  refine call1 (v := .int .i64 (if 0 < p then w + 1 else w)) hX.h111 rfl (by decide) (fun tm hl a0 => ?_) rfl σ
  simp only [AVal.strip, stripL] at a0
  replace hl : tm.length = 11 := hl
  have w1 : IntKind.i64.wrap (w + 1) = w + 1 := by rw [wrap_i64] <;> omega
  unfold Gives
  by_cases c : 0 < p <;> simp [xf111, hl, a0, c, w1, Store.empty, Store.new, Store.put, Store.get, look, putL, setR, Store.only, Store.merge, touch, wrote, upTo, isIn, okRec, hits, capsOf, xcaps, stripL, AVal.strip, freeL, AVal.free, fillR, chunks, mkV, List.filter]
theorem t66 (w p d : Int) (hw : w + 1 ≤ 9223372036854775807) (hw2 : -9223372036854775808 ≤ w) (σ : Store) : Run X (.call 69) [.agg [.int .i64 w, .int .i64 p, .int .i64 d]] σ = some (.ret, [.agg [.int .i64 w, .int .i64 (if 0 < p then w + 1 else w)]], σ) := by
  have t1 := t111 hX w p d hw hw2
  refine call1 (v := .agg [.int .i64 w, .int .i64 (if 0 < p then w + 1 else w)]) hX.h69 rfl (by decide) (fun tm hl a0 => ?_) rfl σ
  simp only [AVal.strip, stripL] at a0
  replace hl : tm.length = 8 := hl
  unfold Gives
  simp [xf69, hl, a0, t1, Store.empty, Store.new, Store.put, Store.get, look, putL, setR, Store.only, Store.merge, touch, wrote, upTo, isIn, okRec, hits, capsOf, xcaps, stripL, AVal.strip, freeL, AVal.free, fillR, chunks, mkV, List.filter]
theorem t65 {l : List Kn} {v : AVal} (h : KL l v) (t : Tab l) {x : Int} (hx : isLev l x = true) (σ : Store) : Run X (.call 130) [.agg [v], .int .i64 x] σ = some (.ret, [.agg [.int .i64 (volR l x).1, .int .i64 (sNum x (kat l (lix l x - 1)).1 (kat l (lix l x - 1)).2 (kat l (lix l x)).2 % ((kat l (lix l x)).1 - (kat l (lix l x - 1)).1)), .int .i64 ((kat l (lix l x)).1 - (kat l (lix l x - 1)).1)]], σ) := by
  have t1 := t108 hX h t.two (by have := t.ten; omega) (f := 150) (b := [.iptr [.int .i64 x] 0]) rfl (g := fun i => (kat l i).1) (x := x) (fun i _ σ => t109 hX (kat l i) x σ)
  have t2 := t110 hX (lix_s t hx)
  have e : upIx (fun i => (kat l i).1) l.length x = lix l x := rfl
  rw [e] at t1
  have e2 : (volR l x).1 = sLo x (kat l (lix l x - 1)).1 (kat l (lix l x)).1 (kat l (lix l x - 1)).2 (kat l (lix l x)).2 := rfl
  rw [e2]
  refine call2 (v := .agg [.int .i64 (sLo x (kat l (lix l x - 1)).1 (kat l (lix l x)).1 (kat l (lix l x - 1)).2 (kat l (lix l x)).2), .int .i64 (sNum x (kat l (lix l x - 1)).1 (kat l (lix l x - 1)).2 (kat l (lix l x)).2 % ((kat l (lix l x)).1 - (kat l (lix l x - 1)).1)), .int .i64 ((kat l (lix l x)).1 - (kat l (lix l x - 1)).1)]) hX.h130 (by simp [AVal.strip, stripL, AVal.free, freeL, h.strip, h.free]) rfl (by decide) (fun tm hl a0 a1 => ?_) rfl σ
  simp only [AVal.strip, stripL, h.strip] at a0 a1
  replace hl : tm.length = 23 := hl
  simp only [pc] at t1
  unfold Gives
  simp [xf130, hl, a0, a1, t1, t2, h.one, Store.empty, Store.new, Store.put, Store.get, look, putL, setR, Store.only, Store.merge, touch, wrote, upTo, isIn, okRec, hits, capsOf, xcaps, stripL, AVal.strip, freeL, AVal.free, fillR, chunks, mkV, List.filter]
theorem t68 {l : List Kn} {v : AVal} (h : KL l v) (t : Tab l) {x : Int} (hx : isVol l x = true) (σ : Store) : Run X (.call 68) [.agg [v], .int .i64 x] σ = some (.ret, [.agg [.int .i64 (levR l x).1, .int .i64 (sNum x (kat l (vix l x - 1)).2 (kat l (vix l x - 1)).1 (kat l (vix l x)).1 % ((kat l (vix l x)).2 - (kat l (vix l x - 1)).2)), .int .i64 ((kat l (vix l x)).2 - (kat l (vix l x - 1)).2)]], σ) := by
  have t1 := t69 hX h t.two (by have := t.ten; omega) x
  have t2 := t110 hX (vix_s t hx)
  have e2 : (levR l x).1 = sLo x (kat l (vix l x - 1)).2 (kat l (vix l x)).2 (kat l (vix l x - 1)).1 (kat l (vix l x)).1 := rfl
  rw [e2]
  refine call2 (v := .agg [.int .i64 (sLo x (kat l (vix l x - 1)).2 (kat l (vix l x)).2 (kat l (vix l x - 1)).1 (kat l (vix l x)).1), .int .i64 (sNum x (kat l (vix l x - 1)).2 (kat l (vix l x - 1)).1 (kat l (vix l x)).1 % ((kat l (vix l x)).2 - (kat l (vix l x - 1)).2)), .int .i64 ((kat l (vix l x)).2 - (kat l (vix l x - 1)).2)]) hX.h68 (by simp [AVal.strip, stripL, AVal.free, freeL, h.strip, h.free]) rfl (by decide) (fun tm hl a0 a1 => ?_) rfl σ
  simp only [AVal.strip, stripL, h.strip] at a0 a1
  replace hl : tm.length = 23 := hl
  simp only [pc] at t1
  unfold Gives
  simp [xf68, hl, a0, a1, t1, t2, h.one, Store.empty, Store.new, Store.put, Store.get, look, putL, setR, Store.only, Store.merge, touch, wrote, upTo, isIn, okRec, hits, capsOf, xcaps, stripL, AVal.strip, freeL, AVal.free, fillR, chunks, mkV, List.filter]

omit hX in
def P70 (p0 p1 p4 : AVal) (σ : Store) (g : Int) (tm' : List AVal) (σ' : Store) : Prop := σ' = σ ∧ tm'.length = 22 ∧ XOpd.eval tm' (.t 0) = p0 ∧ XOpd.eval tm' (.t 1) = p1 ∧ XOpd.eval tm' (.t 4) = p4 ∧ XOpd.eval tm' (.t 5) = .int .i64 g
end
end Go.Proofs.YtbgjmclpahganaaGreat.Eng

/-
  TABLES, F: levels, volumes and areas, answered and specified.
-/
namespace Go.Proofs.YtbgjmclpahganaaGreat.Eng
set_option linter.unusedSimpArgs false
set_option linter.unusedVariables false

def rng (r : Kn) : AVal := .agg [.int .i64 r.1, .int .i64 r.2]
def volA (l : List Kn) (x : Int) : Kn × Int := if (tabErr l).2 ≠ 0 then ((0, 0), (tabErr l).2) else if isLev l x then (volR l x, 0) else ((0, 0), 2)
def levA (l : List Kn) (x : Int) : Kn × Int := if (tabErr l).2 ≠ 0 then ((0, 0), (tabErr l).2) else if isVol l x then (levR l x, 0) else ((0, 0), 2)
def areA (l : List Kn) (x : Int) : Kn × Int := if (tabErr l).2 ≠ 0 then ((0, 0), (tabErr l).2) else if isVol l x then (areaR l x, 0) else ((0, 0), 2)
def ans (r : Kn × Int) : AVal := .tup [rng r.1, .int .i64 r.2]

section
variable {X : FuncId → Option XFunc} (hX : TabCode X)
include hX

theorem t16 {l : List Kn} {v : AVal} (h : KL l v) (hn : l.length ≤ 1000000) (x : Int) (σ : Store) : Run X (.call 39) [.agg [v], .int .i64 x] σ = some (.ret, [ans (levA l x)], σ) := by
  have t1 := t67 hX h hn x
  refine call2 (v := ans (levA l x)) hX.h39 (by simp [AVal.strip, stripL, AVal.free, freeL, h.strip, h.free]) rfl (by decide) (fun tm hl a0 a1 => ?_) rfl σ
  simp only [AVal.strip, stripL, h.strip] at a0 a1
  replace hl : tm.length = 22 := hl
  unfold Gives
  by_cases e : (tabErr l).2 = 0
  · have t := tab_of e
    cases c : isVol l x
    · simp [xf39, hl, a0, a1, t1, e, c, tabWith, ans, levA, rng, h.one, xresult, xrets, Store.empty, Store.new, Store.put, Store.get, look, putL, setR, Store.only, Store.merge, touch, wrote, upTo, isIn, okRec, hits, capsOf, xcaps, stripL, AVal.strip, freeL, AVal.free, fillR, chunks, mkV, List.filter]
    · have t3 := t68 hX h t c
      obtain ⟨b1, b2, b3, b4, b5⟩ := (vix_s t c).lo
      have b6 := (vix_s t c).big'; have b7 := (vix_s t c).ny
      have t4 := t66 hX (levR l x).1 (sNum x (kat l (vix l x - 1)).2 (kat l (vix l x - 1)).1 (kat l (vix l x)).1 % ((kat l (vix l x)).2 - (kat l (vix l x - 1)).2)) ((kat l (vix l x)).2 - (kat l (vix l x - 1)).2) (by simp only [levR]; omega) (by simp only [levR]; omega)
      have e2 : (if 0 < sNum x (kat l (vix l x - 1)).2 (kat l (vix l x - 1)).1 (kat l (vix l x)).1 % ((kat l (vix l x)).2 - (kat l (vix l x - 1)).2) then (levR l x).1 + 1 else (levR l x).1) = (levR l x).2 := by simp only [levR, sHi]
      rw [e2] at t4
      simp [xf39, hl, a0, a1, t1, t3, t4, e, c, tabWith, ans, levA, rng, h.one, xresult, xrets, Store.empty, Store.new, Store.put, Store.get, look, putL, setR, Store.only, Store.merge, touch, wrote, upTo, isIn, okRec, hits, capsOf, xcaps, stripL, AVal.strip, freeL, AVal.free, fillR, chunks, mkV, List.filter]
  · simp [xf39, hl, a0, a1, t1, e, tabWith, ans, levA, rng, h.one, xresult, xrets, Store.empty, Store.new, Store.put, Store.get, look, putL, setR, Store.only, Store.merge, touch, wrote, upTo, isIn, okRec, hits, capsOf, xcaps, stripL, AVal.strip, freeL, AVal.free, fillR, chunks, mkV, List.filter]
/-! As it is specified. -/
def P79 (j : Nat) (tm' : List AVal) (σ' : Store) : Prop := tm'.length = 17 ∧ XOpd.eval tm' (.t 5) = .int .i64 j
omit hX in
theorem loop79 {l : List Kn} {x : Int} (hn : l.length ≤ 1000000) : ∀ (k i : Nat), i + k + 1 = l.length → x ≤ (kat l (i + k)).2 → ∀ (tm : List AVal) (σ : Store), tm.length = 17 → XOpd.eval tm (.t 1) = .int .i64 x → XOpd.eval tm (.t 2) = .ptr 0 0 → XOpd.eval tm (.t 5) = .int .i64 i → σ.get 0 = some (.cells [.list 2 (kns l) none]) →
      Ends (Run X (.code (.loop xf115l0)) tm σ) (.exit 0) (P79 (upF (fun i => (kat l i).2) x k i)) := by
  intro k
  induction k with
  | zero =>
    intro i hk hx tm σ hl h1 h2 h5 g0
    have c : ¬ (kat l i).2 < x := by simpa using hx
    have hi : i < l.length := by omega
    rw [Run_loop]
    simp [xf115l0, hl, h1, h2, h5, g0, hi, c, upF, P79, Kn.enc]
  | succ k ih =>
    intro i hk hx tm σ hl h1 h2 h5 g0
    have w2 : IntKind.i64.wrap ((i : Int) + 1) = ((i + 1 : Nat) : Int) := by rw [wrap_i64] <;> omega
    have hi : i < l.length := by omega
    rw [Run_loop]
    by_cases c : (kat l i).2 < x
    · simp only [upF, c, if_true]
      simp [xf115l0, hl, h1, h2, h5, g0, hi, c, w2, Kn.enc]
      refine ih (i + 1) (by omega) (by rw [show i + 1 + k = i + (k + 1) from by omega]; exact hx) _ _ ?_ ?_ ?_ ?_ g0 <;> simp [hl, h1, h2]
    · simp only [upF, c, if_false]
      simp [xf115l0, hl, h1, h2, h5, g0, hi, c, w2, P79, Kn.enc]
theorem t79 {l : List Kn} {v : AVal} (h : KL l v) (t : Tab l) {x : Int} (hx : isVol l x = true) (σ : Store) : Run X (.call 115) [.agg [v], .int .i64 x] σ = some (.ret, [.int .i64 (vix l x)], σ) := by
  have h2 := t.two; have h10 := t.ten
  have := h.list (by omega)
  subst this
  obtain ⟨h3, h4⟩ := isVol_iff.1 hx
  refine call2 (v := .int .i64 (vix l x)) hX.h115 (by simp [AVal.strip, stripL, AVal.free, freeL, kns_strip, kns_free]) rfl (by decide) (fun tm hl a0 a1 => ?_) rfl σ
  simp only [AVal.strip, stripL, kns_strip] at a0 a1
  replace hl : tm.length = 17 := hl
  unfold Gives
  simp [xf115, hl, a0, a1, Store.empty, Store.new, Store.put, Store.get, look, putL, setR, Store.only, Store.merge, touch, wrote, upTo, isIn, okRec, hits, capsOf, xcaps, stripL, AVal.strip, freeL, AVal.free, fillR, chunks, mkV, List.filter]
  generalize hR : Run X (.code (.loop xf115l0)) _ _ = R
  have hE : Ends R (.exit 0) (P79 (vix l x)) := by
    rw [← hR]
    refine loop79 (by omega) (l.length - 2) 1 (by omega) (by rw [show 1 + (l.length - 2) = l.length - 1 from by omega]; exact h4) _ _ ?_ ?_ ?_ ?_ ?_ <;> simp [hl, a1, Store.get, look]
  clear hR
  obtain ⟨tm', σ', rfl, k1, k2⟩ := hE
  simp [k1, k2]

/-- A rounded fraction: what is asked. -/
theorem t76 {n d : Int} {u : AVal} (hu : IsR n d u) (a1 : ab n < pw 15) (a2 : ab d < pw 15) (b1 : ab (n / d) < pw 2) (b2 : ab (-((-n) / d)) < pw 2) (σ : Store) : Run X (.call 116) [u] σ = some (.ret, [rng (n / d, -((-n) / d))], σ) := by
  obtain ⟨w, w1, w2⟩ := w118 hX.wide hu a1 a2
  obtain ⟨z, z1, z2⟩ := w119 hX.wide hu a1 a2
  have t1 := w117 hX.wide w1 b1
  have t2 := w117 hX.wide z1 b2
  have hs := hu.strip; have hf := hu.free
  obtain ⟨s1, d1, s2, d2, rfl, k1, k2, k3⟩ := hu
  refine call1 (v := rng (n / d, -((-n) / d))) hX.h116 (by rw [hs]; exact hf) (by decide) (fun tm hl a0 => ?_) rfl σ
  rw [hs] at a0
  replace hl : tm.length = 22 := hl
  unfold Gives
  simp [xf116, hl, a0, w2, z2, t1, t2, rng, Store.empty, Store.new, Store.put, Store.get, look, putL, setR, Store.only, Store.merge, touch, wrote, upTo, isIn, okRec, hits, capsOf, xcaps, stripL, AVal.strip, freeL, AVal.free, fillR, chunks, mkV, List.filter]

omit hX in
/-- Rounding a number on a straight line. -/
theorem round_line {n d y0 num den : Int} (hd : 0 < d) (hden : 0 < den) (h : n * den = (y0 * den + num) * d) : n / d = y0 + num / den ∧ -((-n) / d) = if 0 < num % den then y0 + num / den + 1 else y0 + num / den := by
  have e1 : n / d = (y0 * den + num) / den := floor_cross hd hden h
  have e2 : (y0 * den + num) / den = y0 + num / den := by rw [Int.add_comm, Int.add_mul_ediv_right _ _ (Int.ne_of_gt hden), Int.add_comm]
  have e3 : (-n) / d = (-(y0 * den + num)) / den := floor_cross hd hden (by rw [Int.neg_mul, h, Int.neg_mul])
  refine ⟨by rw [e1, e2], ?_⟩
  rw [e3]
  have m := Int.mul_ediv_add_emod num den
  have m1 := Int.emod_nonneg num (Int.ne_of_gt hden)
  have m2 := Int.emod_lt_of_pos num hden
  split
  · have : (-(y0 * den + num)) / den = -(y0 + num / den + 1) := by
      refine ((Int.ediv_emod_unique (r := den - num % den) hden).2 ⟨?_, by omega, by omega⟩).1
      rw [Int.mul_neg, Int.mul_add, Int.mul_add, Int.mul_comm den y0]; omega
    rw [this]; omega
  · have : (-(y0 * den + num)) / den = -(y0 + num / den) := by
      refine ((Int.ediv_emod_unique (r := 0) hden).2 ⟨?_, by omega, by omega⟩).1
      rw [Int.mul_neg, Int.mul_add, Int.mul_comm den y0]; omega
    rw [this]; omega
end
end Go.Proofs.YtbgjmclpahganaaGreat.Eng

/-
  TABLES, G: levels, volumes and areas as they are specified; the law.
-/
namespace Go.Proofs.YtbgjmclpahganaaGreat.Eng
set_option linter.unusedSimpArgs false
set_option linter.unusedVariables false

theorem line_cross {y0 k n' d' n2 d2 n3 d3 dL dV : Int} (hd' : 0 < d') (hd2 : 0 < d2) (h1 : n' * dL = dV * d') (h2 : n2 * d' = (k * n') * d2) (h3 : n3 * d2 = (y0 * d2 + n2) * d3) : n3 * dL = (y0 * dL + k * dV) * d3 := by
  refine Int.eq_of_mul_eq_mul_right (Int.ne_of_gt (Int.mul_pos hd2 hd')) ?_
  have e1 : n3 * dL * (d2 * d') = (n3 * d2) * (dL * d') := by ac_rfl
  have e2 : (y0 * d2 + n2) * d3 * (dL * d') = y0 * d2 * d3 * dL * d' + (n2 * d') * (d3 * dL) := by rw [Int.add_mul, Int.add_mul]; congr 1 <;> ac_rfl
  have e3 : k * n' * d2 * (d3 * dL) = k * d2 * d3 * (n' * dL) := by ac_rfl
  have e4 : (y0 * dL + k * dV) * d3 * (d2 * d') = y0 * d2 * d3 * dL * d' + k * d2 * d3 * (dV * d') := by rw [Int.add_mul, Int.add_mul]; congr 1 <;> ac_rfl
  rw [e1, h3, e2, h2, e3, h1, e4]
theorem ab_lt {n : Int} {k : Nat} {b : Int} (h0 : 0 ≤ n) (h1 : n < b) (hb : b ≤ pw k) : ab n < pw k := by rw [ab_pos h0]; omega
theorem pw2 : pw 2 = 1000000000000000000 := rfl

section
variable {X : FuncId → Option XFunc} (hX : TabCode X)
include hX

def P77 (j : Nat) (tm' : List AVal) (σ' : Store) (l : List Kn) : Prop := tm'.length = 36 ∧ XOpd.eval tm' (.t 5) = .int .i64 j ∧ XOpd.eval tm' (.t 2) = .ptr 0 0 ∧ XOpd.eval tm' (.t 4) = .ptr 1 0
omit hX in
theorem loop77 {l : List Kn} {x : Int} (hn : l.length ≤ 1000000) : ∀ (k i : Nat), i + k + 1 = l.length → x ≤ (kat l (i + k)).1 → ∀ (tm : List AVal) (σ : Store), tm.length = 36 → XOpd.eval tm (.t 1) = .int .i64 x → XOpd.eval tm (.t 2) = .ptr 0 0 → XOpd.eval tm (.t 4) = .ptr 1 0 → XOpd.eval tm (.t 5) = .int .i64 i → σ.get 0 = some (.cells [.list 2 (kns l) none]) →
      Ends (Run X (.code (.loop xf131l0)) tm σ) (.exit 0) fun tm' σ' => σ' = σ ∧ tm'.length = 36 ∧ XOpd.eval tm' (.t 1) = .int .i64 x ∧ XOpd.eval tm' (.t 2) = .ptr 0 0 ∧ XOpd.eval tm' (.t 4) = .ptr 1 0 ∧ XOpd.eval tm' (.t 5) = .int .i64 (upF (fun i => (kat l i).1) x k i) := by
  intro k
  induction k with
  | zero =>
    intro i hk hx tm σ hl h1 h2 h4 h5 g0
    have c : ¬ (kat l i).1 < x := by simpa using hx
    have hi : i < l.length := by omega
    rw [Run_loop]
    simp [xf131l0, hl, h1, h2, h4, h5, g0, hi, c, upF, Kn.enc]
  | succ k ih =>
    intro i hk hx tm σ hl h1 h2 h4 h5 g0
    have w2 : IntKind.i64.wrap ((i : Int) + 1) = ((i + 1 : Nat) : Int) := by rw [wrap_i64] <;> omega
    have hi : i < l.length := by omega
    rw [Run_loop]
    by_cases c : (kat l i).1 < x
    · simp only [upF, c, if_true]
      simp [xf131l0, hl, h1, h2, h4, h5, g0, hi, c, w2, Kn.enc]
      refine ih (i + 1) (by omega) (by rw [show i + 1 + k = i + (k + 1) from by omega]; exact hx) _ _ ?_ ?_ ?_ ?_ ?_ g0 <;> simp [hl, h1, h2, h4]
    · simp only [upF, c, if_false]
      simp [xf131l0, hl, h1, h2, h4, h5, g0, hi, c, w2, Kn.enc]

/-- A fraction with a value. -/
def IsV (num den : Int) (v : AVal) : Prop := ∃ n d, IsR n d v ∧ n * den = num * d ∧ ab n < pw 15 ∧ ab d < pw 15
omit hX in
theorem IsV.told {n d : Int} : ∀ v, IsV n d v → Told (IsV n d) v := fun v ⟨n', d', h2, h1⟩ => ⟨by rw [h2.strip]; exact h2.free, n', d', by rw [h2.strip]; exact h2, h1⟩

theorem t77 {l : List Kn} {v : AVal} (h : KL l v) (t : Tab l) {x : Int} (hx : isLev l x = true) :
    ∃ w, IsV ((kat l (lix l x - 1)).2 * ((kat l (lix l x)).1 - (kat l (lix l x - 1)).1) + sNum x (kat l (lix l x - 1)).1 (kat l (lix l x - 1)).2 (kat l (lix l x)).2) ((kat l (lix l x)).1 - (kat l (lix l x - 1)).1) w ∧ ∀ σ, Run X (.call 131) [.agg [v], .int .i64 x] σ = some (.ret, [w], σ) := by
  have h2 := t.two; have h10 := t.ten
  have := h.list (by omega)
  subst this
  obtain ⟨h3, h4⟩ := isLev_iff.1 hx
  obtain ⟨j1, j2, j3, j4⟩ := lix_in t hx
  have i1 := t.inr _ j2; have i2 := t.inr (lix l x - 1) (by omega); have i3 := t.inc _ j1 j2
  obtain ⟨u, ⟨n', d', r1, r2⟩, u2⟩ := t74 hX h (i := lix l x) (by omega) j2 (by omega) i2 i1 (by omega)
  unfold InR at i1 i2
  generalize hj : lix l x = j at *
  generalize hka : kat l (j - 1) = a at *
  generalize hkb : kat l j = b at *
  obtain ⟨A, A1, A2⟩ := w121 hX.wide (n := a.2) (by omega) (by omega)
  obtain ⟨B, B1, B2⟩ := w121 hX.wide (n := x - a.1) (by omega) (by omega)
  obtain ⟨rp, rc, rs, rt⟩ := r1
  have sn' : ab n' < pw 2 := by have : ab (b.2 - a.2) < pw 2 := ab_lt (b := 1000000000000000000) (by omega) (by omega) (by rw [pw2]; omega); omega
  have sd' : ab d' < pw 2 := by have : ab (b.1 - a.1) < pw 2 := ab_lt (b := 1000000000000000000) (by omega) (by omega) (by rw [pw2]; omega); rw [ab_pos (by omega : 0 ≤ d')]; omega
  have sx : ab (x - a.1) < pw 2 := ab_lt (b := 1000000000000000000) (by omega) (by omega) (by rw [pw2]; omega)
  have sy : ab a.2 < pw 2 := ab_lt (b := 1000000000000000000) (by omega) (by omega) (by rw [pw2]; omega)
  have s1 : ab 1 < pw 2 := ab_lt (b := 1000000000000000000) (by omega) (by omega) (by rw [pw2]; omega)
  obtain ⟨C, ⟨n2, d2, q1, q2⟩, C2⟩ := w122 hX.wide B1 r2 (size_le (by omega) sx) (size_le (by omega) s1) (size_le (by omega) sn') (size_le (by omega) sd')
  obtain ⟨qp, qc, qs, qt⟩ := q1
  rw [Int.one_mul] at qc qt
  have sn2 : ab n2 < pw 4 := by have : ab ((x - a.1) * n') < pw 4 := size_mul sx sn'; omega
  have sd2 : ab d2 < pw 2 := by rw [ab_pos (by omega : 0 ≤ d2)]; omega
  obtain ⟨D, ⟨n3, d3, p1, p2⟩, D2⟩ := w120 hX.wide A1 q2 (size_le (by omega) sy) (size_le (by omega) s1) (size_le (by omega) sn2) (size_le (by omega) sd2)
  obtain ⟨pp, pc', ps, pt⟩ := p1
  rw [Int.one_mul, Int.mul_one] at pc'
  rw [Int.one_mul] at pt
  rw [Int.mul_one] at ps
  have sn3 : ab n3 < pw 5 := by have : ab (a.2 * d2 + n2) < pw 5 := size_add (i := 4) (size_mul sy sd2) sn2; omega
  have sd3 : ab d3 < pw 2 := by rw [ab_pos (by omega : 0 ≤ d3)]; omega
  have hv : IsV (a.2 * (b.1 - a.1) + sNum x a.1 a.2 b.2) (b.1 - a.1) D := ⟨n3, d3, p2, line_cross rp qp rc qc pc', size_le (by omega) sn3, size_le (by omega) sd3⟩
  have := IsV.told _ hv
  have fA := A1.free; have tA := A1.strip; have fB := B1.free; have tB := B1.strip; have fC := q2.free; have tC := q2.strip; have fu := r2.free; have tu := r2.strip; have fD := p2.free; have tD := p2.strip
  obtain ⟨e1, f1, e2, f2, rfl, o1, o2, _⟩ := p2
  refine call2E hX.h131 (by simp [AVal.strip, stripL, AVal.free, freeL, kns_strip, kns_free]) rfl (by decide) fun tm hl a0 a1 => ?_
  simp only [AVal.strip, stripL, kns_strip] at a0 a1
  replace hl : tm.length = 36 := hl
  generalize Told (IsV (a.2 * (b.1 - a.1) + sNum x a.1 a.2 b.2) (b.1 - a.1)) = Φ at this ⊢
  unfold GivesE
  simp [xf131, hl, a0, a1, Store.empty, Store.new, Store.put, Store.get, look, putL, setR, Store.only, Store.merge, touch, wrote, upTo, isIn, okRec, hits, capsOf, xcaps, stripL, AVal.strip, freeL, AVal.free, fillR, chunks, mkV, List.filter]
  generalize hR : Run X (.code (.loop xf131l0)) _ _ = R
  have hE : Ends R (.exit 0) (fun tm' σ' => σ' = (⟨[(0, .cells [.list 2 (kns l) none]), (1, .cells [.int .i64 0, .nils, .int .i64 0, .nils])], 2⟩ : Store) ∧ tm'.length = 36 ∧ XOpd.eval tm' (.t 1) = .int .i64 x ∧ XOpd.eval tm' (.t 2) = .ptr 0 0 ∧ XOpd.eval tm' (.t 4) = .ptr 1 0 ∧ XOpd.eval tm' (.t 5) = .int .i64 j) := by
    rw [← hR, ← hj]
    refine loop77 (by omega) (l.length - 2) 1 (by omega) (by rw [show 1 + (l.length - 2) = l.length - 1 from by omega]; exact h4) _ _ ?_ ?_ ?_ ?_ ?_ ?_ <;> simp [hl, a1, Store.get, look]
  clear hR
  obtain ⟨tm', σ', rfl, rfl, k1, k2, k3, k4, k5⟩ := hE
  have w1 : IntKind.i64.wrap ((j : Int) - 1) = ((j - 1 : Nat) : Int) := by rw [wrap_i64] <;> omega
  have w2 : IntKind.i64.wrap (x - a.1) = x - a.1 := by rw [wrap_i64] <;> omega
  have j5 : j - 1 < l.length := by omega
  simp [k1, k2, k3, k4, k5, w1, w2, j5, hka, A2, B2, C2, D2, u2, fA, tA, fB, tB, fC, tC, fu, tu, o1.one, o2.one, Kn.enc, kns_free, kns_strip, Store.empty, Store.new, Store.put, Store.get, look, putL, setR, Store.only, Store.merge, touch, wrote, upTo, isIn, okRec, hits, capsOf, xcaps, stripL, AVal.strip, freeL, AVal.free, fillR, chunks, mkV, List.filter]
  exact this
end
end Go.Proofs.YtbgjmclpahganaaGreat.Eng

/-
  TABLES, H: levels and areas as they are specified; the law of tables.
-/
namespace Go.Proofs.YtbgjmclpahganaaGreat.Eng
set_option linter.unusedSimpArgs false
set_option linter.unusedVariables false
section
variable {X : FuncId → Option XFunc} (hX : TabCode X)
include hX

theorem t78 {l : List Kn} {v : AVal} (h : KL l v) (t : Tab l) {x : Int} (hx : isVol l x = true) :
    ∃ w, IsV ((kat l (vix l x - 1)).1 * ((kat l (vix l x)).2 - (kat l (vix l x - 1)).2) + sNum x (kat l (vix l x - 1)).2 (kat l (vix l x - 1)).1 (kat l (vix l x)).1) ((kat l (vix l x)).2 - (kat l (vix l x - 1)).2) w ∧ ∀ σ, Run X (.call 97) [.agg [v], .int .i64 x] σ = some (.ret, [w], σ) := by
  have h2 := t.two; have h10 := t.ten
  have := h.list (by omega)
  subst this
  have t79 := t79 hX h t hx
  obtain ⟨j1, j2, j3, j4⟩ := vix_in t hx
  have i1 := t.inr _ j2; have i2 := t.inr (vix l x - 1) (by omega); have i3 := t.inc _ j1 j2
  obtain ⟨u, ⟨n', d', r1, r2⟩, u2⟩ := t74 hX h (i := vix l x) (by omega) j2 (by omega) i2 i1 (by omega)
  unfold InR at i1 i2
  generalize hj : vix l x = j at *
  generalize hka : kat l (j - 1) = a at *
  generalize hkb : kat l j = b at *
  obtain ⟨A, A1, A2⟩ := w121 hX.wide (n := a.1) (by omega) (by omega)
  obtain ⟨B, B1, B2⟩ := w121 hX.wide (n := x - a.2) (by omega) (by omega)
  obtain ⟨rp, rc, rs, rt⟩ := r1
  have sn' : ab n' < pw 2 := by have : ab (b.2 - a.2) < pw 2 := ab_lt (b := 1000000000000000000) (by omega) (by omega) (by rw [pw2]; omega); omega
  have sd' : ab d' < pw 2 := by have : ab (b.1 - a.1) < pw 2 := ab_lt (b := 1000000000000000000) (by omega) (by omega) (by rw [pw2]; omega); rw [ab_pos (by omega : 0 ≤ d')]; omega
  have sx : ab (x - a.2) < pw 2 := ab_lt (b := 1000000000000000000) (by omega) (by omega) (by rw [pw2]; omega)
  have sy : ab a.1 < pw 2 := ab_lt (b := 1000000000000000000) (by omega) (by omega) (by rw [pw2]; omega)
  have s1 : ab 1 < pw 2 := ab_lt (b := 1000000000000000000) (by omega) (by omega) (by rw [pw2]; omega)
  have np : 0 < n' := by
    have : 0 < n' * (b.1 - a.1) := by rw [rc]; exact Int.mul_pos (by omega) rp
    exact Int.pos_of_mul_pos_left this (by omega)
  obtain ⟨C, ⟨n2, d2, q1, q2⟩, C2⟩ := w123 hX.wide B1 r2 (by omega) (size_le (by omega) sx) (size_le (by omega) s1) (size_le (by omega) sn') (size_le (by omega) sd')
  obtain ⟨qp, qc, qs, qt⟩ := q1
  rw [Int.one_mul] at qc qt
  have sn2 : ab n2 < pw 4 := by have : ab ((x - a.2) * d') < pw 4 := size_mul sx sd'; omega
  have sd2 : ab d2 < pw 2 := by rw [ab_pos (by omega : 0 ≤ d2)]; omega
  obtain ⟨D, ⟨n3, d3, p1, p2⟩, D2⟩ := w120 hX.wide A1 q2 (size_le (by omega) sy) (size_le (by omega) s1) (size_le (by omega) sn2) (size_le (by omega) sd2)
  obtain ⟨pp, pc', ps, pt⟩ := p1
  rw [Int.one_mul, Int.mul_one] at pc'
  rw [Int.one_mul] at pt
  rw [Int.mul_one] at ps
  have sn3 : ab n3 < pw 5 := by have : ab (a.1 * d2 + n2) < pw 5 := size_add (i := 4) (size_mul sy sd2) sn2; omega
  have sd3 : ab d3 < pw 2 := by rw [ab_pos (by omega : 0 ≤ d3)]; omega
  have hv : IsV (a.1 * (b.2 - a.2) + sNum x a.2 a.1 b.1) (b.2 - a.2) D := ⟨n3, d3, p2, line_cross (n' := d') (d' := n') np qp (by rw [Int.mul_comm d', ← rc, Int.mul_comm]) qc pc', size_le (by omega) sn3, size_le (by omega) sd3⟩
  have := IsV.told _ hv
  have fA := A1.free; have tA := A1.strip; have fB := B1.free; have tB := B1.strip; have fC := q2.free; have tC := q2.strip; have fu := r2.free; have tu := r2.strip; have fD := p2.free; have tD := p2.strip
  obtain ⟨e1, f1, e2, f2, rfl, o1, o2, _⟩ := p2
  refine call2E hX.h97 (by simp [AVal.strip, stripL, AVal.free, freeL, kns_strip, kns_free]) rfl (by decide) fun tm hl a0 a1 => ?_
  simp only [AVal.strip, stripL, kns_strip] at a0 a1
  replace hl : tm.length = 29 := hl
  generalize Told (IsV (a.1 * (b.2 - a.2) + sNum x a.2 a.1 b.1) (b.2 - a.2)) = Φ at this ⊢
  have w1 : IntKind.i64.wrap ((j : Int) - 1) = ((j - 1 : Nat) : Int) := by rw [wrap_i64] <;> omega
  have w2 : IntKind.i64.wrap (x - a.2) = x - a.2 := by rw [wrap_i64] <;> omega
  have j5 : j - 1 < l.length := by omega
  unfold GivesE
  simp [xf97, hl, a0, a1, t79, w1, w2, j5, hka, A2, B2, C2, D2, u2, fA, tA, fB, tB, fC, tC, fu, tu, o1.one, o2.one, Kn.enc, kns_free, kns_strip, Store.empty, Store.new, Store.put, Store.get, look, putL, setR, Store.only, Store.merge, touch, wrote, upTo, isIn, okRec, hits, capsOf, xcaps, stripL, AVal.strip, freeL, AVal.free, fillR, chunks, mkV, List.filter]
  exact this

omit hX in
theorem line_round {n d x x0 x1 y0 y1 : Int} (hd : 0 < d) (s : SOk x x0 x1 y0 y1) (h : n * (x1 - x0) = (y0 * (x1 - x0) + sNum x x0 y0 y1) * d) : n / d = sLo x x0 x1 y0 y1 ∧ -((-n) / d) = sHi x x0 x1 y0 y1 ∧ ab (n / d) < pw 2 ∧ ab (-((-n) / d)) < pw 2 := by
  have hden : 0 < x1 - x0 := by have := s.lt; omega
  obtain ⟨e1, e2⟩ := round_line hd hden h
  obtain ⟨p1, p2, p3, p4, p5⟩ := s.lo
  have b := s.big'; have b2 := s.ny
  have f1 : n / d = sLo x x0 x1 y0 y1 := e1
  have f2 : -((-n) / d) = sHi x x0 x1 y0 y1 := e2
  rw [f1, f2]
  exact ⟨rfl, rfl, ab_lt (b := 1000000000000000000) (by omega) (by omega) (by rw [pw2]; omega), ab_lt (b := 1000000000000000000) (by omega) (by omega) (by rw [pw2]; omega)⟩

theorem t20 {l : List Kn} {v : AVal} (h : KL l v) (t : Tab l) {x : Int} (hx : isLev l x = true) (σ : Store) : Run X (.call 108) [.agg [v], .int .i64 x] σ = some (.ret, [rng (volR l x)], σ) := by
  obtain ⟨w, ⟨n, d, w1, w2, w3, w4⟩, t1⟩ := t77 hX h t hx
  have hd : 0 < d := by obtain ⟨_, _, _, _, _, _, _, h⟩ := w1; exact h
  obtain ⟨e1, e2, e3, e4⟩ := line_round hd (lix_s t hx) w2
  have t2 := t76 hX w1 w3 w4 e3 e4
  have e : (n / d, -((-n) / d)) = volR l x := by rw [e1, e2]; rfl
  rw [e] at t2
  refine call2 (v := rng (volR l x)) hX.h108 (by simp [AVal.strip, stripL, AVal.free, freeL, h.strip, h.free]) rfl (by decide) (fun tm hl a0 a1 => ?_) rfl σ
  simp only [AVal.strip, stripL, h.strip] at a0 a1
  replace hl : tm.length = 9 := hl
  simp only [rng] at t2 ⊢
  unfold Gives
  simp [xf108, hl, a0, a1, t1, t2, h.one, Store.empty, Store.new, Store.put, Store.get, look, putL, setR, Store.only, Store.merge, touch, wrote, upTo, isIn, okRec, hits, capsOf, xcaps, stripL, AVal.strip, freeL, AVal.free, fillR, chunks, mkV, List.filter]
omit hX in
def P124 (σ : Store) (g : Int) (tm' : List AVal) (σ' : Store) : Prop := σ' = σ ∧ tm'.length = 13 ∧ XOpd.eval tm' (.t 0) = .int .i64 g
end
end Go.Proofs.YtbgjmclpahganaaGreat.Eng

/-
  LEVELS, A: what levels and volumes are to each other.
-/
namespace Go.Proofs.YtbgjmclpahganaaGreat.Eng
set_option linter.unusedSimpArgs false
set_option linter.unusedVariables false

theorem upF_unique (g : Nat → Int) (x : Int) : ∀ k i j, i ≤ j → j ≤ i + k → x ≤ g j → (∀ m, i ≤ m → m < j → g m < x) → upF g x k i = j
  | 0, i, j, h1, h2, h3, h4 => by simp only [upF]; omega
  | k + 1, i, j, h1, h2, h3, h4 => by
    simp only [upF]
    by_cases hij : i = j
    · subst hij; rw [if_neg (by omega)]
    · rw [if_pos (h4 i (Nat.le_refl _) (by omega))]
      exact upF_unique g x k (i + 1) j (by omega) (by omega) h3 (fun m a b => h4 m (by omega) b)
/-- Ends of a straight line. -/
theorem sLo_start {x0 x1 y0 y1 : Int} : sLo x0 x0 x1 y0 y1 = y0 ∧ sHi x0 x0 x1 y0 y1 = y0 := by simp [sHi, sLo, sNum]
theorem sLo_end {x0 x1 y0 y1 : Int} (h : x0 < x1) : sLo x1 x0 x1 y0 y1 = y1 ∧ sHi x1 x0 x1 y0 y1 = y1 := by
  have hd : x1 - x0 ≠ 0 := by omega
  have e1 : (x1 - x0) * (y1 - y0) / (x1 - x0) = y1 - y0 := Int.mul_ediv_cancel_left _ hd
  have e2 : (x1 - x0) * (y1 - y0) % (x1 - x0) = 0 := Int.mul_emod_right _ _
  simp only [sHi, sLo, sNum, e1, e2]
  constructor
  · omega
  · simp; omega
section
variable {l : List Kn} (t : Tab l)
include t
theorem mono_lev : ∀ {i j : Nat}, i ≤ j → j < l.length → (kat l i).1 ≤ (kat l j).1 ∧ (kat l i).2 ≤ (kat l j).2 := by
  intro i j h
  induction h with
  | refl => intro _; exact ⟨Int.le_refl _, Int.le_refl _⟩
  | @step m h ih =>
    intro hj
    simp only [Nat.succ_eq_add_one] at *
    have := ih (by omega)
    have h2 := t.inc (m + 1) (by omega) hj
    simp only [Nat.add_sub_cancel] at h2
    omega
theorem volR_in {j : Nat} {y : Int} (h1 : 1 ≤ j) (h2 : j < l.length) (h3 : (kat l (j - 1)).1 ≤ y) (h4 : y ≤ (kat l j).1) :
    volR l y = (sLo y (kat l (j - 1)).1 (kat l j).1 (kat l (j - 1)).2 (kat l j).2, sHi y (kat l (j - 1)).1 (kat l j).1 (kat l (j - 1)).2 (kat l j).2) := by
  by_cases hc : j = 1 ∨ (kat l (j - 1)).1 < y
  · have e : lix l y = j := upF_unique _ _ _ _ _ h1 (by omega) h4 (fun m a b => by
      rcases hc with hc | hc
      · omega
      · have := (mono_lev t (i := m) (j := j - 1) (by omega) (by omega)).1; omega)
    unfold volR; rw [e]
  · have hy : y = (kat l (j - 1)).1 := by omega
    have e : lix l y = j - 1 := upF_unique _ _ _ _ _ (by omega) (by omega) (by omega) (fun m a b => by
      have := (mono_lev t (i := m) (j := j - 2) (by omega) (by omega)).1
      have h5 := t.inc (j - 1) (by omega) (by omega)
      rw [show j - 1 - 1 = j - 2 from by omega] at h5; omega)
    have h5 := t.inc (j - 1) (by omega) (by omega)
    unfold volR; rw [e, hy]
    obtain ⟨a1, a2⟩ := sLo_end (y0 := (kat l (j - 1 - 1)).2) (y1 := (kat l (j - 1)).2) h5.1
    obtain ⟨b1, b2⟩ := sLo_start (x0 := (kat l (j - 1)).1) (x1 := (kat l j).1) (y0 := (kat l (j - 1)).2) (y1 := (kat l j).2)
    rw [a1, a2, b1, b2]
theorem levR_in {j : Nat} {x : Int} (h1 : 1 ≤ j) (h2 : j < l.length) (h3 : (kat l (j - 1)).2 ≤ x) (h4 : x ≤ (kat l j).2) :
    levR l x = (sLo x (kat l (j - 1)).2 (kat l j).2 (kat l (j - 1)).1 (kat l j).1, sHi x (kat l (j - 1)).2 (kat l j).2 (kat l (j - 1)).1 (kat l j).1) := by
  by_cases hc : j = 1 ∨ (kat l (j - 1)).2 < x
  · have e : vix l x = j := upF_unique _ _ _ _ _ h1 (by omega) h4 (fun m a b => by
      rcases hc with hc | hc
      · omega
      · have := (mono_lev t (i := m) (j := j - 1) (by omega) (by omega)).2; omega)
    unfold levR; rw [e]
  · have hy : x = (kat l (j - 1)).2 := by omega
    have e : vix l x = j - 1 := upF_unique _ _ _ _ _ (by omega) (by omega) (by omega) (fun m a b => by
      have := (mono_lev t (i := m) (j := j - 2) (by omega) (by omega)).2
      have h5 := t.inc (j - 1) (by omega) (by omega)
      rw [show j - 1 - 1 = j - 2 from by omega] at h5; omega)
    have h5 := t.inc (j - 1) (by omega) (by omega)
    unfold levR; rw [e, hy]
    obtain ⟨a1, a2⟩ := sLo_end (y0 := (kat l (j - 1 - 1)).1) (y1 := (kat l (j - 1)).1) h5.2
    obtain ⟨b1, b2⟩ := sLo_start (x0 := (kat l (j - 1)).2) (x1 := (kat l j).2) (y0 := (kat l (j - 1)).1) (y1 := (kat l j).1)
    rw [a1, a2, b1, b2]
theorem knot_lev {i : Nat} (hi : i < l.length) : isVol l (kat l i).2 = true ∧ levR l (kat l i).2 = ((kat l i).1, (kat l i).1) ∧ isLev l (kat l i).1 = true ∧ volR l (kat l i).1 = ((kat l i).2, (kat l i).2) := by
  have h2 := t.two
  have m1 := mono_lev t (i := 0) (j := i) (by omega) hi
  have m2 := mono_lev t (i := i) (j := l.length - 1) (by omega) (by omega)
  refine ⟨isVol_iff.2 ⟨m1.2, m2.2⟩, ?_, isLev_iff.2 ⟨m1.1, m2.1⟩, ?_⟩
  · by_cases h0 : i = 0
    · subst h0
      have h5 := t.inc 1 (by omega) (by omega)
      rw [levR_in t (j := 1) (by omega) (by omega) (by simp) (by simp at h5; omega)]
      obtain ⟨b1, b2⟩ := sLo_start (x0 := (kat l 0).2) (x1 := (kat l 1).2) (y0 := (kat l 0).1) (y1 := (kat l 1).1)
      simp only [Nat.sub_self, b1, b2]
    · have h5 := t.inc i (by omega) hi
      rw [levR_in t (j := i) (by omega) hi (by omega) (Int.le_refl _)]
      obtain ⟨a1, a2⟩ := sLo_end (y0 := (kat l (i - 1)).1) (y1 := (kat l i).1) h5.2
      rw [a1, a2]
  · by_cases h0 : i = 0
    · subst h0
      have h5 := t.inc 1 (by omega) (by omega)
      rw [volR_in t (j := 1) (by omega) (by omega) (by simp) (by simp at h5; omega)]
      obtain ⟨b1, b2⟩ := sLo_start (x0 := (kat l 0).1) (x1 := (kat l 1).1) (y0 := (kat l 0).2) (y1 := (kat l 1).2)
      simp only [Nat.sub_self, b1, b2]
    · have h5 := t.inc i (by omega) hi
      rw [volR_in t (j := i) (by omega) hi (by omega) (Int.le_refl _)]
      obtain ⟨a1, a2⟩ := sLo_end (y0 := (kat l (i - 1)).2) (y1 := (kat l i).2) h5.1
      rw [a1, a2]
end
/-- There and back. -/
theorem line_back {x x0 x1 y0 y1 : Int} (s : SOk x x0 x1 y0 y1) : sLo (sLo x x0 x1 y0 y1) y0 y1 x0 x1 ≤ x ∧ x ≤ sHi (sHi x x0 x1 y0 y1) y0 y1 x0 x1 := by
  obtain ⟨n0, n1, _⟩ := s.num
  have hd : 0 < x1 - x0 := by have := s.lt; omega
  have hd' : 0 < y1 - y0 := by have := s.lt'; omega
  have e := Int.mul_ediv_add_emod (sNum x x0 y0 y1) (x1 - x0)
  have e1 := Int.emod_nonneg (sNum x x0 y0 y1) (Int.ne_of_gt hd)
  have e2 := Int.emod_lt_of_pos (sNum x x0 y0 y1) hd
  have hle := s.le
  constructor
  · unfold sLo
    generalize hq : sNum x x0 y0 y1 / (x1 - x0) = q at *
    have h1 : sNum (y0 + q) y0 x0 x1 = q * (x1 - x0) := by unfold sNum; congr 1; omega
    rw [h1]
    have h2 : q * (x1 - x0) ≤ (x - x0) * (y1 - y0) := by rw [Int.mul_comm]; unfold sNum at e; unfold sNum at e1; omega
    have h3 : q * (x1 - x0) / (y1 - y0) ≤ x - x0 := Int.ediv_le_of_le_mul hd' h2
    omega
  · unfold sHi
    generalize hq : sNum x x0 y0 y1 / (x1 - x0) = q at *
    have key : ∀ z : Int, sNum x x0 y0 y1 ≤ z * (x1 - x0) → x ≤ (if 0 < sNum (y0 + z) y0 x0 x1 % (y1 - y0) then sLo (y0 + z) y0 y1 x0 x1 + 1 else sLo (y0 + z) y0 y1 x0 x1) := by
      intro z hz
      have h1 : sNum (y0 + z) y0 x0 x1 = z * (x1 - x0) := by unfold sNum; congr 1; omega
      unfold sLo
      rw [h1]
      have f := Int.mul_ediv_add_emod (z * (x1 - x0)) (y1 - y0)
      have f1 := Int.emod_nonneg (z * (x1 - x0)) (Int.ne_of_gt hd')
      have f2 := Int.emod_lt_of_pos (z * (x1 - x0)) hd'
      generalize z * (x1 - x0) / (y1 - y0) = p at *
      generalize z * (x1 - x0) % (y1 - y0) = r at *
      have h5 : (x - x0) * (y1 - y0) ≤ (y1 - y0) * p + r := by rw [f]; exact hz
      split
      · have : (x - x0) * (y1 - y0) < (p + 1) * (y1 - y0) := by rw [Int.add_mul, Int.one_mul, Int.mul_comm p]; omega
        have := (mul_cancel_lt hd').1 this
        omega
      · have : (x - x0) * (y1 - y0) < (p + 1) * (y1 - y0) := by rw [Int.add_mul, Int.one_mul, Int.mul_comm p]; omega
        have := (mul_cancel_lt hd').1 this
        omega
    have hlo : sLo x x0 x1 y0 y1 = y0 + q := by unfold sLo; rw [hq]
    rw [hlo]
    split
    · rw [Int.add_assoc]
      exact key (q + 1) (by rw [Int.add_mul, Int.one_mul, Int.mul_comm q]; omega)
    · exact key q (by rw [Int.mul_comm q]; omega)
theorem line_mono {x x' x0 x1 y0 y1 : Int} (s : SOk x x0 x1 y0 y1) (h : x ≤ x') : sLo x x0 x1 y0 y1 ≤ sLo x' x0 x1 y0 y1 ∧ sHi x x0 x1 y0 y1 ≤ sHi x' x0 x1 y0 y1 := by
  have hd : 0 < x1 - x0 := by have := s.lt; omega
  have hn : sNum x x0 y0 y1 ≤ sNum x' x0 y0 y1 := by
    unfold sNum; exact Int.mul_le_mul_of_nonneg_right (by omega) (by have := s.lt'; omega)
  have e := Int.mul_ediv_add_emod (sNum x x0 y0 y1) (x1 - x0)
  have e' := Int.mul_ediv_add_emod (sNum x' x0 y0 y1) (x1 - x0)
  have e1 := Int.emod_nonneg (sNum x x0 y0 y1) (Int.ne_of_gt hd)
  have e1' := Int.emod_nonneg (sNum x' x0 y0 y1) (Int.ne_of_gt hd)
  have hq : sNum x x0 y0 y1 / (x1 - x0) ≤ sNum x' x0 y0 y1 / (x1 - x0) := Int.ediv_le_ediv hd hn
  unfold sHi sLo
  refine ⟨by omega, ?_⟩
  by_cases hs : sNum x x0 y0 y1 / (x1 - x0) = sNum x' x0 y0 y1 / (x1 - x0)
  · rw [hs] at e ⊢
    repeat' split <;> omega
  · repeat' split <;> omega
section
variable {l : List Kn} (t : Tab l)
include t
theorem vix_mono {x x' : Int} (h1 : isVol l x = true) (h2 : isVol l x' = true) (h : x ≤ x') : vix l x ≤ vix l x' := by
  obtain ⟨a1, a2, a3, a4⟩ := vix_in t h1
  obtain ⟨b1, b2, b3, b4⟩ := vix_in t h2
  by_cases hc : vix l x ≤ vix l x'
  · exact hc
  · have h3 := (upF_spec (fun i => (kat l i).2) x (l.length - 2) 1 (by have := (isVol_iff.1 h1).2; have := t.two; simpa [show 1 + (l.length - 2) = l.length - 1 from by omega])).2 (vix l x') b1 (by show vix l x' < vix l x; omega)
    have h3' : (kat l (vix l x')).2 < x := h3
    omega
theorem lev_mono {x x' : Int} (h1 : isVol l x = true) (h2 : isVol l x' = true) (h : x ≤ x') : (levR l x).1 ≤ (levR l x').1 ∧ (levR l x).2 ≤ (levR l x').2 := by
  have hv := vix_mono t h1 h2 h
  have s1 := vix_s t h1; have s2 := vix_s t h2
  by_cases hc : vix l x = vix l x'
  · unfold levR; rw [← hc]; exact line_mono s1 h
  · obtain ⟨a1, a2, a3, a4⟩ := vix_in t h1
    obtain ⟨b1, b2, b3, b4⟩ := vix_in t h2
    have := (mono_lev t (i := vix l x) (j := vix l x' - 1) (by omega) (by omega)).1
    have l1 := s1.lo; have l2 := s2.lo
    unfold levR; simp only; omega
theorem lev_back {x : Int} (h : isVol l x = true) : isLev l (levR l x).1 = true ∧ isLev l (levR l x).2 = true ∧ (volR l (levR l x).1).1 ≤ x ∧ x ≤ (volR l (levR l x).2).2 := by
  obtain ⟨a1, a2, a3, a4⟩ := vix_in t h
  have s := vix_s t h
  have lo := s.lo
  have m1 := mono_lev t (i := 0) (j := vix l x - 1) (by omega) (by omega)
  have m2 := mono_lev t (i := vix l x) (j := l.length - 1) (by omega) (by omega)
  have e1 : (levR l x).1 = sLo x (kat l (vix l x - 1)).2 (kat l (vix l x)).2 (kat l (vix l x - 1)).1 (kat l (vix l x)).1 := rfl
  have e2 : (levR l x).2 = sHi x (kat l (vix l x - 1)).2 (kat l (vix l x)).2 (kat l (vix l x - 1)).1 (kat l (vix l x)).1 := rfl
  obtain ⟨b1, b2⟩ := line_back s
  refine ⟨isLev_iff.2 (by rw [e1]; omega), isLev_iff.2 (by rw [e2]; omega), ?_, ?_⟩
  · rw [volR_in t a1 a2 (by rw [e1]; omega) (by rw [e1]; omega), e1]; exact b1
  · rw [volR_in t a1 a2 (by rw [e2]; omega) (by rw [e2]; omega), e2]; exact b2
/-- Areas never decrease. -/
theorem area_mono {i : Nat} (h1 : 1 ≤ i) : ∀ {j : Nat}, i ≤ j → j < l.length → ((kat l i).2 - (kat l (i - 1)).2) * ((kat l j).1 - (kat l (j - 1)).1) ≤ ((kat l j).2 - (kat l (j - 1)).2) * ((kat l i).1 - (kat l (i - 1)).1) := by
  intro j h
  induction h with
  | refl => intro _; exact Int.le_refl _
  | @step m h ih =>
    intro hj
    simp only [Nat.succ_eq_add_one, Nat.add_sub_cancel] at *
    simp only [Nat.le_eq] at h
    have h3 := ih (by omega)
    have ha := t.area (m + 1) (by omega) hj
    simp only [lessA, decide_eq_false_iff_not, Nat.add_sub_cancel, show m + 1 - 2 = m - 1 from by omega] at ha
    have i1 := t.inc m (by omega) (by omega)
    have i2 := t.inc (m + 1) (by omega) hj
    have i3 := t.inc i (by omega) (by omega)
    simp only [Nat.add_sub_cancel] at i2 ⊢
    generalize (kat l i).2 - (kat l (i - 1)).2 = A at *
    have hp : 0 < (kat l m).1 - (kat l (m - 1)).1 := by omega
    have hq : 0 ≤ (kat l (m + 1)).1 - (kat l m).1 := by omega
    have hr : 0 ≤ (kat l i).1 - (kat l (i - 1)).1 := by omega
    generalize (kat l i).1 - (kat l (i - 1)).1 = B at *
    generalize (kat l m).1 - (kat l (m - 1)).1 = C at *
    generalize (kat l m).2 - (kat l (m - 1)).2 = D at *
    generalize (kat l (m + 1)).1 - (kat l m).1 = E at *
    generalize (kat l (m + 1)).2 - (kat l m).2 = F at *
    have k1 : A * C * E ≤ D * B * E := Int.mul_le_mul_of_nonneg_right h3 hq
    have k2 : D * E * B ≤ F * C * B := Int.mul_le_mul_of_nonneg_right (by omega) hr
    have k3 : A * E * C ≤ F * B * C := by
      have q1 : A * E * C = A * C * E := by ac_rfl
      have q2 : F * B * C = F * C * B := by ac_rfl
      have q3 : D * B * E = D * E * B := by ac_rfl
      omega
    by_cases hc : A * E ≤ F * B
    · exact hc
    · have := Int.mul_lt_mul_of_pos_right (show F * B < A * E by omega) hp; omega
end
theorem gcdF_nat : ∀ (k m n : Nat), n < k → gcdF k m n = (Nat.gcd m n : Nat)
  | 0, m, n, h => by omega
  | k + 1, m, n, h => by
    simp only [gcdF]
    by_cases h0 : n = 0
    · subst h0; simp
    · rw [if_neg (by omega), ← Int.natCast_emod, gcdF_nat k n (m % n) (by have := Nat.mod_lt m (show n > 0 by omega); omega), Nat.gcd_comm n, ← Nat.gcd_rec, Nat.gcd_comm]
theorem gcdI_nat {a b : Int} (ha : 0 ≤ a) (hb : 0 ≤ b) : gcdI a b = (Nat.gcd a.toNat b.toNat : Nat) := by
  have := gcdF_nat (b.toNat + 1) a.toNat b.toNat (by omega)
  rw [Int.toNat_of_nonneg ha, Int.toNat_of_nonneg hb] at this
  exact this
theorem gcdI_dvd {a b : Int} (ha : 0 ≤ a) (hb : 0 ≤ b) : gcdI a b ∣ a ∧ gcdI a b ∣ b := by
  rw [gcdI_nat ha hb]
  constructor
  · have := Int.natCast_dvd_natCast.2 (Nat.gcd_dvd_left a.toNat b.toNat); rwa [Int.toNat_of_nonneg ha] at this
  · have := Int.natCast_dvd_natCast.2 (Nat.gcd_dvd_right a.toNat b.toNat); rwa [Int.toNat_of_nonneg hb] at this
theorem gcdI_lowest {a b : Int} (ha : 0 < a) (hb : 0 < b) : gcdI (a / gcdI a b) (b / gcdI a b) = 1 := by
  have g := gcdI_ok ha hb
  rw [gcdI_nat (Int.ediv_nonneg (by omega) (by omega)) (Int.ediv_nonneg (by omega) (by omega))]
  have e : gcdI a b = (Nat.gcd a.toNat b.toNat : Nat) := gcdI_nat (by omega) (by omega)
  have ea : a = (a.toNat : Int) := (Int.toNat_of_nonneg (by omega)).symm
  have eb : b = (b.toNat : Int) := (Int.toNat_of_nonneg (by omega)).symm
  rw [e]
  have h1 : (a / (Nat.gcd a.toNat b.toNat : Nat)).toNat = a.toNat / Nat.gcd a.toNat b.toNat := by
    conv => lhs; rw [ea]
    rw [← Int.natCast_ediv, Int.toNat_natCast, Int.toNat_natCast]
  have h2 : (b / (Nat.gcd a.toNat b.toNat : Nat)).toNat = b.toNat / Nat.gcd a.toNat b.toNat := by
    conv => lhs; rw [eb]
    rw [← Int.natCast_ediv, Int.toNat_natCast, Int.toNat_natCast]
  rw [h1, h2, Nat.gcd_div (Nat.gcd_dvd_left _ _) (Nat.gcd_dvd_right _ _), Nat.div_self (by omega)]
  rfl
end Go.Proofs.YtbgjmclpahganaaGreat.Eng
