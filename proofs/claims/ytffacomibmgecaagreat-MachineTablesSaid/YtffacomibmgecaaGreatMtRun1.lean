/-
  MACHINE: tables, what they are.
-/
import Derived.Test.YtffacomibmgecaaGreatEng5
import Derived.Test.YtffacomibmgecaaGreatCode1
import Derived.Test.YtffacomibmgecaaGreatEngLoop
namespace Go.Proofs.YtffacomibmgecaaGreat.Eng
set_option linter.unusedSimpArgs false
set_option linter.unusedVariables false
def win (a b c : Int) : Bool := decide (b ≤ a) && decide (a ≤ c)
theorem win_iff {a b c : Int} : win a b c = true ↔ b ≤ a ∧ a ≤ c := by simp [win]
def firstNZ : List Int → Int
  | [] => 0
  | e :: l => if e = 0 then firstNZ l else e
/-- A point, a row (with the value of its points). -/
structure Pt where
  h : Int
  f : Int
  p : Int
structure Rw where
  op : Int
  v : AVal
  pts : List Pt
def Pt.enc (p : Pt) : AVal := .agg [.int .i64 p.h, .int .i64 p.f, .int .i64 p.p]
def encs (l : List Pt) : List AVal := l.map Pt.enc
theorem encs_free (l : List Pt) : freeL (encs l) = true := by rw [freeL_all]; intro x hx; obtain ⟨s, _, rfl⟩ := List.mem_map.1 hx; rfl
theorem encs_strip (l : List Pt) : stripL (encs l) = encs l := freeL_strip (encs_free l)
theorem encs_get {l : List Pt} {i : Nat} {p : Pt} (h : l[i]? = some p) : (encs l)[i]? = some p.enc := by simp [encs, h]
theorem encs_len (l : List Pt) : (encs l).length = l.length := by simp [encs]
def PL (l : List Pt) (v : AVal) : Prop := (v = .nils ∧ l = []) ∨ v = .list 3 (encs l) none
theorem PL.strip {l : List Pt} {v : AVal} (h : PL l v) : v.strip = v := by
  rcases h with ⟨rfl, _⟩ | rfl
  · rfl
  · simp [AVal.strip, encs_strip]
theorem PL.free {l : List Pt} {v : AVal} (h : PL l v) : v.free = true := by
  rcases h with ⟨rfl, _⟩ | rfl
  · rfl
  · simp [AVal.free, encs_free]
theorem PL.one {l : List Pt} {v : AVal} (h : PL l v) : v.one = true := by rcases h with ⟨rfl, _⟩ | rfl <;> rfl
theorem PL.isM {l : List Pt} {v : AVal} (h : PL l v) : v.isM = false := by rcases h with ⟨rfl, _⟩ | rfl <;> rfl
theorem PL.xlen {l : List Pt} {v : AVal} (h : PL l v) : xlen v = some (.int .i64 l.length) := by rcases h with ⟨rfl, rfl⟩ | rfl <;> simp [Go.Proofs.YtffacomibmgecaaGreat.Eng.xlen, encs]
theorem PL.list {l : List Pt} {v : AVal} (h : PL l v) (hl : 0 < l.length) : v = .list 3 (encs l) none := by
  rcases h with ⟨_, rfl⟩ | rfl
  · simp at hl
  · rfl
def Rw.enc (r : Rw) : AVal := .agg [.int .i64 r.op, r.v]
def rws (t : List Rw) : List AVal := t.map Rw.enc
/-- A table's rows. -/
structure TL (t : List Rw) (w : AVal) : Prop where
  v : (w = .nils ∧ t = []) ∨ w = .list 2 (rws t) none
  r : ∀ r, r ∈ t → PL r.pts r.v
theorem rws_free {t : List Rw} (h : ∀ r, r ∈ t → PL r.pts r.v) : freeL (rws t) = true := by
  rw [freeL_all]; intro x hx; obtain ⟨s, hs, rfl⟩ := List.mem_map.1 hx
  simp [Rw.enc, AVal.free, freeL, (h s hs).free]
theorem TL.strip {t : List Rw} {w : AVal} (h : TL t w) : w.strip = w := by
  rcases h.v with ⟨rfl, _⟩ | rfl
  · rfl
  · simp [AVal.strip, freeL_strip (rws_free h.r)]
theorem TL.free {t : List Rw} {w : AVal} (h : TL t w) : w.free = true := by
  rcases h.v with ⟨rfl, _⟩ | rfl
  · rfl
  · simp [AVal.free, rws_free h.r]
theorem TL.one {t : List Rw} {w : AVal} (h : TL t w) : w.one = true := by rcases h.v with ⟨rfl, _⟩ | rfl <;> rfl
theorem TL.isM {t : List Rw} {w : AVal} (h : TL t w) : w.isM = false := by rcases h.v with ⟨rfl, _⟩ | rfl <;> rfl
theorem TL.xlen {t : List Rw} {w : AVal} (h : TL t w) : xlen w = some (.int .i64 t.length) := by rcases h.v with ⟨rfl, rfl⟩ | rfl <;> simp [Go.Proofs.YtffacomibmgecaaGreat.Eng.xlen, rws]
theorem TL.list {t : List Rw} {w : AVal} (h : TL t w) (hl : 0 < t.length) : w = .list 2 (rws t) none := by
  rcases h.v with ⟨_, rfl⟩ | e
  · simp at hl
  · exact e
theorem rws_get {t : List Rw} {i : Nat} {r : Rw} (h : t[i]? = some r) : (rws t)[i]? = some (.agg [.int .i64 r.op, r.v]) := by simp [rws, h, Rw.enc]
theorem TL.at {t : List Rw} {w : AVal} (h : TL t w) {i : Nat} (hi : i < t.length) : ∃ r, t[i]? = some r ∧ (rws t)[i]? = some (.agg [.int .i64 r.op, r.v]) ∧ PL r.pts r.v ∧ r ∈ t := by
  have e : t[i]? = some t[i] := List.getElem?_eq_getElem hi
  exact ⟨_, e, rws_get e, h.r _ (List.getElem_mem hi), List.getElem_mem hi⟩
def Rw.cp (r : Rw) : Rw := ⟨r.op, .list 3 (encs r.pts) none, r.pts⟩
/-! Errors. -/
def ptE (p : Pt) : Int := if win p.h (-1000) 1000 && win p.f (-1000) 1000 && win p.p (-10000) 10000 then 0 else 2
def ptsE (l : List Pt) : Int := firstNZ (l.map ptE)
def rowE (n : Nat) (op : Int) (pts : List Pt) : Int := if win op 0 100 then (if pts.length < 2 ∨ pts.length ≠ n then 10 else if 6 < pts.length then 8 else ptsE pts) else 2
def ordE (a b : Int) : Int := if a < b then (if b - a ≤ 20 then 0 else 22) else 9
def nth (t : List Rw) (i : Nat) : Rw := t.getD i ⟨0, .nils, []⟩
def rowErr (t : List Rw) (i : Nat) : Int := if rowE (nth t 0).pts.length (nth t i).op (nth t i).pts ≠ 0 then rowE (nth t 0).pts.length (nth t i).op (nth t i).pts else if i = 0 then 0 else ordE (nth t (i - 1)).op (nth t i).op
def fstIx (f : Nat → Int) : Nat → Nat → Nat × Int
  | 0, _ => (0, 0)
  | k + 1, i => if f i = 0 then fstIx f k (i + 1) else (i, f i)
def area (a b c : Pt) : Int := (b.h - a.h) * (c.f - a.f) - (c.h - a.h) * (b.f - a.f)
/-- A triangle, with its openings. -/
structure Tri where
  a : Pt
  b : Pt
  c : Pt
  oa : Int
  ob : Int
  oc : Int
def Tri.area (x : Tri) : Int := Go.Proofs.YtffacomibmgecaaGreat.Eng.area x.a x.b x.c
def pat (l : List Pt) (k : Nat) : Pt := l.getD k ⟨0, 0, 0⟩
def tri1 (a b : Rw) (k : Nat) : Tri := ⟨pat a.pts k, pat a.pts (k + 1), pat b.pts k, a.op, a.op, b.op⟩
def tri2 (a b : Rw) (k : Nat) : Tri := ⟨pat a.pts (k + 1), pat b.pts (k + 1), pat b.pts k, a.op, b.op, b.op⟩
def trisB (a b : Rw) : Nat → Nat → List Tri
  | 0, _ => []
  | n + 1, k => tri1 a b k :: tri2 a b k :: trisB a b n (k + 1)
def trisAt (t : List Rw) (i : Nat) : List Tri := trisB (nth t i) (nth t (i + 1)) ((nth t i).pts.length - 1) 0
def trisF (t : List Rw) : Nat → Nat → List (Nat × Tri)
  | 0, _ => []
  | n + 1, i => (trisAt t i).map (fun x => (i, x)) ++ trisF t n (i + 1)
def tris (t : List Rw) : List (Nat × Tri) := trisF t (t.length - 1) 0
def clashAt (t : List Rw) (i : Nat) : Int := if (trisAt t i).any (fun x => decide (x.area ≤ 0)) then 13 else 0
def chkT (t : List Rw) : Nat × Int := if t.length < 2 then (0, 10) else if 6 < t.length then (0, 8) else if (fstIx (rowErr t) t.length 0).2 ≠ 0 then fstIx (rowErr t) t.length 0 else fstIx (clashAt t) (t.length - 1) 0
def fstBad : List (Nat × Tri) → Nat × Int
  | [] => (0, 0)
  | x :: l => if x.2.area ≤ 0 then (x.1, 13) else fstBad l
theorem fstBad_map (i : Nat) (l : List Tri) (r : List (Nat × Tri)) : fstBad (l.map (fun x => (i, x)) ++ r) = if l.any (fun x => decide (x.area ≤ 0)) then (i, 13) else fstBad r := by
  induction l with
  | nil => simp
  | cons x l ih =>
    simp only [List.map_cons, List.cons_append, fstBad, List.any_cons, ih]
    by_cases h : x.area ≤ 0 <;> simp [h]
theorem fstBad_tris (t : List Rw) : ∀ n i, fstBad (trisF t n i) = fstIx (clashAt t) n i
  | 0, i => rfl
  | n + 1, i => by
    rw [trisF, fstBad_map, fstIx, fstBad_tris t n (i + 1)]
    unfold clashAt
    cases (trisAt t i).any (fun x => decide (x.area ≤ 0)) <;> simp
def areaS (l : List (Nat × Tri)) : Int := (l.map fun x => x.2.area).sum
/-! Valid ones. -/
structure PtOk (p : Pt) : Prop where
  h0 : -1000 ≤ p.h
  h1 : p.h ≤ 1000
  f0 : -1000 ≤ p.f
  f1 : p.f ≤ 1000
  p0 : -10000 ≤ p.p
  p1 : p.p ≤ 10000
theorem ptE_ok {p : Pt} (h : ptE p = 0) : PtOk p := by
  unfold ptE at h
  split at h
  · rename_i h1
    simp only [Bool.and_eq_true, win_iff] at h1
    exact ⟨h1.1.1.1, h1.1.1.2, h1.1.2.1, h1.1.2.2, h1.2.1, h1.2.2⟩
  · omega
theorem firstNZ_zero {l : List Int} (h : firstNZ l = 0) : ∀ e, e ∈ l → e = 0 := by
  induction l with
  | nil => intro e he; simp at he
  | cons a l ih =>
    intro e he
    unfold firstNZ at h
    split at h
    · rename_i h0
      rcases List.mem_cons.1 he with rfl | he
      · exact h0
      · exact ih h e he
    · contradiction
theorem ptsE_ok {l : List Pt} (h : ptsE l = 0) : ∀ p, p ∈ l → PtOk p := fun p hp => ptE_ok (firstNZ_zero h _ (List.mem_map_of_mem hp))
theorem fstIx_zero {f : Nat → Int} : ∀ {n i : Nat}, (fstIx f n i).2 = 0 → ∀ j, i ≤ j → j < i + n → f j = 0
  | 0, i, _, j, h1, h2 => by omega
  | n + 1, i, h, j, h1, h2 => by
    unfold fstIx at h
    split at h
    · rename_i h0
      by_cases e : j = i
      · rw [e]; exact h0
      · exact fstIx_zero h j (by omega) (by omega)
    · contradiction
/-- A valid table. -/
structure TOk (t : List Rw) : Prop where
  two : 2 ≤ t.length
  six : t.length ≤ 6
  op : ∀ i, i < t.length → 0 ≤ (nth t i).op ∧ (nth t i).op ≤ 100
  len : ∀ i, i < t.length → (nth t i).pts.length = (nth t 0).pts.length
  p2 : 2 ≤ (nth t 0).pts.length
  p6 : (nth t 0).pts.length ≤ 6
  pt : ∀ i, i < t.length → ∀ p, p ∈ (nth t i).pts → PtOk p
  ord : ∀ i, i + 1 < t.length → (nth t i).op < (nth t (i + 1)).op ∧ (nth t (i + 1)).op ≤ (nth t i).op + 20
theorem rowE_ok {n : Nat} {op : Int} {l : List Pt} (h : rowE n op l = 0) : (0 ≤ op ∧ op ≤ 100) ∧ 2 ≤ l.length ∧ l.length = n ∧ l.length ≤ 6 ∧ ∀ p, p ∈ l → PtOk p := by
  unfold rowE at h
  split at h
  · rename_i h1
    rw [win_iff] at h1
    split at h
    · omega
    · split at h
      · omega
      · exact ⟨h1, by omega, by omega, by omega, ptsE_ok h⟩
  · omega
theorem rowErr_ok {t : List Rw} {i : Nat} (h : rowErr t i = 0) : rowE (nth t 0).pts.length (nth t i).op (nth t i).pts = 0 ∧ (i ≠ 0 → ordE (nth t (i - 1)).op (nth t i).op = 0) := by
  unfold rowErr at h
  split at h
  · contradiction
  · rename_i h0
    refine ⟨by simpa using h0, fun hi => ?_⟩
    rw [if_neg hi] at h; exact h
theorem rowsOk {t : List Rw} (h2 : 2 ≤ t.length) (h6 : t.length ≤ 6) (h : (fstIx (rowErr t) t.length 0).2 = 0) : TOk t := by
  have hz : ∀ i, i < t.length → rowErr t i = 0 := fun i hi => fstIx_zero h i (by omega) (by omega)
  have hr := fun i hi => rowE_ok (rowErr_ok (hz i hi)).1
  have h0 := hr 0 (by omega)
  refine ⟨h2, h6, fun i hi => (hr i hi).1, fun i hi => (hr i hi).2.2.1, h0.2.1, h0.2.2.2.1, fun i hi => (hr i hi).2.2.2.2, fun i hi => ?_⟩
  have := (rowErr_ok (hz (i + 1) hi)).2 (by omega)
  unfold ordE at this
  rw [Nat.add_sub_cancel] at this
  split at this
  · split at this
    · omega
    · omega
  · omega
theorem chk_ok {t : List Rw} (h : (chkT t).2 = 0) : TOk t := by
  unfold chkT at h
  split at h
  · simp at h
  · split at h
    · simp at h
    · split at h
      · contradiction
      · rename_i h3; exact rowsOk (by omega) (by omega) (by simpa using h3)
theorem mul_bd {a b A B : Int} (a1 : -A ≤ a) (a2 : a ≤ A) (b1 : -B ≤ b) (b2 : b ≤ B) : -(A * B) ≤ a * b ∧ a * b ≤ A * B := by
  have h1 : 0 ≤ (A - a) * (B - b) := Int.mul_nonneg (by omega) (by omega)
  have h2 : 0 ≤ (A + a) * (B + b) := Int.mul_nonneg (by omega) (by omega)
  have h3 : 0 ≤ (A - a) * (B + b) := Int.mul_nonneg (by omega) (by omega)
  have h4 : 0 ≤ (A + a) * (B - b) := Int.mul_nonneg (by omega) (by omega)
  rw [Int.sub_mul, Int.mul_sub, Int.mul_sub] at h1
  rw [Int.add_mul, Int.mul_add, Int.mul_add] at h2
  rw [Int.sub_mul, Int.mul_add, Int.mul_add] at h3
  rw [Int.add_mul, Int.mul_sub, Int.mul_sub] at h4
  constructor <;> omega
structure AreaOk (a b c : Pt) : Prop where
  w1 : IntKind.i64.wrap (b.h - a.h) = b.h - a.h
  w2 : IntKind.i64.wrap (c.f - a.f) = c.f - a.f
  w3 : IntKind.i64.wrap ((b.h - a.h) * (c.f - a.f)) = (b.h - a.h) * (c.f - a.f)
  w4 : IntKind.i64.wrap (c.h - a.h) = c.h - a.h
  w5 : IntKind.i64.wrap (b.f - a.f) = b.f - a.f
  w6 : IntKind.i64.wrap ((c.h - a.h) * (b.f - a.f)) = (c.h - a.h) * (b.f - a.f)
  w7 : IntKind.i64.wrap ((b.h - a.h) * (c.f - a.f) - (c.h - a.h) * (b.f - a.f)) = (b.h - a.h) * (c.f - a.f) - (c.h - a.h) * (b.f - a.f)
  lo : -8000000 ≤ area a b c
  hi : area a b c ≤ 8000000
theorem area_ok {a b c : Pt} (ha : PtOk a) (hb : PtOk b) (hc : PtOk c) : AreaOk a b c := by
  have := ha.h0; have := ha.h1; have := ha.f0; have := ha.f1
  have := hb.h0; have := hb.h1; have := hb.f0; have := hb.f1
  have := hc.h0; have := hc.h1; have := hc.f0; have := hc.f1
  have m1 := mul_bd (a := b.h - a.h) (b := c.f - a.f) (A := 2000) (B := 2000) (by omega) (by omega) (by omega) (by omega)
  have m2 := mul_bd (a := c.h - a.h) (b := b.f - a.f) (A := 2000) (B := 2000) (by omega) (by omega) (by omega) (by omega)
  refine ⟨?_, ?_, ?_, ?_, ?_, ?_, ?_, ?_, ?_⟩
  case refine_8 => unfold area; omega
  case refine_9 => unfold area; omega
  all_goals (rw [wrap_i64] <;> omega)
end Go.Proofs.YtffacomibmgecaaGreat.Eng

/-
  MACHINE: small functions.
-/
namespace Go.Proofs.YtffacomibmgecaaGreat.Eng
set_option linter.unusedSimpArgs false
set_option linter.unusedVariables false
section
variable {X : FuncId → Option XFunc} (hX : MtACode X)
include hX
theorem u58 (a b c : Int) (σ : Store) : Run X (.call 58) [.int .i64 a, .int .i64 b, .int .i64 c] σ = some (.ret, [.bool (win a b c)], σ) := by
  refine call3 (X := X) (a := .int .i64 a) (b := .int .i64 b) (c := .int .i64 c) (v := .bool (win a b c)) hX.h58 rfl rfl rfl (by decide) (fun tm hl h0 h1 h2 => ?_) rfl σ
  simp only [AVal.strip, stripL] at h0 h1 h2
  replace hl : tm.length = 15 := hl
  unfold Gives
  by_cases e1 : b ≤ a <;> simp [xf58, hl, h0, h1, h2, e1, win]
theorem u147 (a b c : Int) (σ : Store) : Run X (.call 147) [.int .i64 a, .int .i64 b, .int .i64 c] σ = some (.ret, [.bool (win a b c)], σ) := by
  refine call3 (X := X) (a := .int .i64 a) (b := .int .i64 b) (c := .int .i64 c) (v := .bool (win a b c)) hX.h147 rfl rfl rfl (by decide) (fun tm hl h0 h1 h2 => ?_) rfl σ
  simp only [AVal.strip, stripL] at h0 h1 h2
  replace hl : tm.length = 15 := hl
  unfold Gives
  by_cases e1 : b ≤ a <;> simp [xf147, hl, h0, h1, h2, e1, win]
theorem u79 (c : Bool) (e : Int) (σ : Store) : Run X (.call 79) [.bool c, .int .i64 e] σ = some (.ret, [.int .i64 (if c then 0 else e)], σ) := by
  refine call2 (X := X) (a := .bool c) (b := .int .i64 e) (v := .int .i64 (if c then 0 else e)) hX.h79 rfl rfl (by decide) (fun tm hl h0 h1 => ?_) rfl σ
  simp only [AVal.strip, stripL] at h0 h1
  replace hl : tm.length = 7 := hl
  unfold Gives
  cases c <;> simp [xf79, hl, h0, h1]
theorem u135 (a b c : Int) (σ : Store) : Run X (.call 135) [.int .i64 a, .int .i64 b, .int .i64 c] σ = some (.ret, [.int .i64 (if win a b c then 0 else 2)], σ) := by
  refine call3 (X := X) (a := .int .i64 a) (b := .int .i64 b) (c := .int .i64 c) (v := .int .i64 (if win a b c then 0 else 2)) hX.h135 rfl rfl rfl (by decide) (fun tm hl h0 h1 h2 => ?_) rfl σ
  simp only [AVal.strip, stripL] at h0 h1 h2
  replace hl : tm.length = 12 := hl
  unfold Gives
  simp [xf135, hl, h0, h1, h2, u147 hX, u79 hX]
theorem u163 (a s : Int) (hs : IntKind.i64.wrap (-s) = -s) (σ : Store) : Run X (.call 163) [.int .i64 a, .int .i64 s] σ = some (.ret, [.int .i64 (if win a (-s) s then 0 else 2)], σ) := by
  refine call2 (v := .int .i64 (if win a (-s) s then 0 else 2)) hX.h163 rfl rfl (by decide) (fun tm hl h0 h1 => ?_) rfl σ
  simp only [AVal.strip] at h0 h1
  replace hl : tm.length = 10 := hl
  unfold Gives
  simp [xf163, hl, h0, h1, u135 hX, hs]
theorem u103 (a : Int) (σ : Store) : Run X (.call 103) [.int .i64 a] σ = some (.ret, [.int .i64 (if win a (-1000) 1000 then 0 else 2)], σ) := by
  refine call1 (X := X) (a := .int .i64 a) (v := .int .i64 (if win a (-1000) 1000 then 0 else 2)) hX.h103 rfl (by decide) (fun tm hl h0 => ?_) rfl σ
  simp only [AVal.strip, stripL] at h0
  replace hl : tm.length = 5 := hl
  unfold Gives
  have := u163 hX a 1000 (by rw [wrap_i64] <;> omega)
  simp [xf103, hl, h0, this]
theorem u186 (a : Int) (σ : Store) : Run X (.call 186) [.int .i64 a] σ = some (.ret, [.int .i64 (if win a (-10000) 10000 then 0 else 2)], σ) := by
  refine call1 (X := X) (a := .int .i64 a) (v := .int .i64 (if win a (-10000) 10000 then 0 else 2)) hX.h186 rfl (by decide) (fun tm hl h0 => ?_) rfl σ
  simp only [AVal.strip, stripL] at h0
  replace hl : tm.length = 5 := hl
  unfold Gives
  have := u163 hX a 10000 (by rw [wrap_i64] <;> omega)
  simp [xf186, hl, h0, this]
theorem u35 (a : Int) (σ : Store) : Run X (.call 35) [.int .i64 a] σ = some (.ret, [.int .i64 (if win a (-1000) 1000 then 0 else 2)], σ) := by
  refine call1 (X := X) (a := .int .i64 a) (v := .int .i64 (if win a (-1000) 1000 then 0 else 2)) hX.h35 rfl (by decide) (fun tm hl h0 => ?_) rfl σ
  simp only [AVal.strip, stripL] at h0
  replace hl : tm.length = 6 := hl
  unfold Gives
  cases c : win a (-1000) 1000 <;> simp [xf35, hl, h0, u58 hX, c]
theorem u156 (a : Int) (σ : Store) : Run X (.call 156) [.int .i64 a] σ = some (.ret, [.int .i64 (if win a (-10000) 10000 then 0 else 2)], σ) := by
  refine call1 (X := X) (a := .int .i64 a) (v := .int .i64 (if win a (-10000) 10000 then 0 else 2)) hX.h156 rfl (by decide) (fun tm hl h0 => ?_) rfl σ
  simp only [AVal.strip, stripL] at h0
  replace hl : tm.length = 6 := hl
  unfold Gives
  cases c : win a (-10000) 10000 <;> simp [xf156, hl, h0, u58 hX, c]
omit hX in
theorem loop78 (es : List Int) (hn : es.length ≤ 1000000000) : ∀ (k i : Nat), i + k = es.length → ∀ (tm : List AVal) (σ : Store), tm.length = 15 → XOpd.eval tm (.t 5) = .list 1 (es.map (.int .i64)) none → XOpd.eval tm (.t 6) = .int .i64 es.length → XOpd.eval tm (.t 7) = .int .i64 i →
    Ends (Run X (.code (.loop xf78l0)) tm σ) (if firstNZ (es.drop i) = 0 then .exit 0 else .ret) fun tm' _ => tm'.length = 15 ∧ (firstNZ (es.drop i) ≠ 0 → XOpd.eval tm' (.t 2) = .int .i64 (firstNZ (es.drop i)))
  | 0, i, hk, tm, σ, hl, h5, h6, h7 => by
    have hi : i = es.length := by omega
    subst hi
    rw [Run_loop]
    simp [xf78l0, hl, h5, h6, h7, firstNZ]
  | k + 1, i, hk, tm, σ, hl, h5, h6, h7 => by
    have hi : i < es.length := by omega
    have hd : es.drop i = es[i] :: es.drop (i + 1) := List.drop_eq_getElem_cons hi
    have hw : IntKind.i64.wrap ((i : Int) + 1) = ((i + 1 : Nat) : Int) := by rw [wrap_i64] <;> omega
    rw [Run_loop, hd]
    by_cases he : es[i] = 0
    · have ih := loop78 es hn k (i + 1) (by omega)
      simp only [firstNZ, he, if_true]
      simp [xf78l0, hl, h5, h6, h7, hi, he, hw, xload, AVal.cells]
      exact ih _ _ (by simp [hl]) (by simp [hl, h5]) (by simp [hl, h6]) (by simp [hl])
    · simp only [firstNZ, he, if_false]
      simp [xf78l0, hl, h5, h6, h7, hi, he, xload, AVal.cells]
omit hX in
theorem eints_free (es : List Int) : freeL (es.map (AVal.int .i64)) = true := by
  induction es with
  | nil => rfl
  | cons e l ih => simp [freeL, AVal.free, ih]
theorem u78 (es : List Int) (hn : es.length ≤ 1000000000) (tok : Option Nat) (σ : Store) : Run X (.call 78) [.list 1 (es.map (.int .i64)) tok] σ = some (.ret, [.int .i64 (firstNZ es)], σ) := by
  refine call1 (v := .int .i64 (firstNZ es)) hX.h78 (by simp [AVal.strip, AVal.free, freeL_strip (eints_free es), eints_free]) (by decide) (fun tm hl h0 => ?_) rfl σ
  simp only [AVal.strip, freeL_strip (eints_free es)] at h0
  replace hl : tm.length = 15 := hl
  have hL := fun tm σ h1 h2 h3 h4 => out_of (loop78 (X := X) es hn es.length 0 (by omega) tm σ h1 h2 h3 h4)
  simp only [List.drop_zero] at hL
  unfold Gives
  by_cases he : firstNZ es = 0
  · simp only [he, if_true] at hL
    simp (maxDischargeDepth := 9) [xf78, hl, h0, hL, he, xlen]
  · simp only [he, if_false] at hL
    simp (maxDischargeDepth := 9) [xf78, hl, h0, hL, he, xlen]
theorem u152 (p : Pt) (σ : Store) : Run X (.call 152) [.agg [.int .i64 p.h, .int .i64 p.f, .int .i64 p.p]] σ = some (.ret, [.int .i64 (ptE p)], σ) := by
  refine call1 (X := X) (a := .agg [.int .i64 p.h, .int .i64 p.f, .int .i64 p.p]) (v := .int .i64 (ptE p)) hX.h152 (by simp [AVal.strip, stripL, AVal.free, freeL]) (by decide) (fun tm hl h0 => ?_) rfl σ
  simp only [AVal.strip, stripL] at h0
  replace hl : tm.length = 14 := hl
  unfold Gives
  have u3 := fun a b c tok σ => u78 hX [a, b, c] (by simp) tok σ
  simp only [List.map_cons, List.map_nil] at u3
  unfold ptE
  cases c1 : win p.h (-1000) 1000 <;> cases c2 : win p.f (-1000) 1000 <;> cases c3 : win p.p (-10000) 10000 <;> simp [xf152, hl, h0, u103 hX, u186 hX, u3, c1, c2, c3, firstNZ, Store.empty, Store.new, Store.put, Store.get, look, putL, setR, Store.only, Store.merge, touch, wrote, upTo, isIn, okRec, hits, capsOf, xcaps, stripL, AVal.strip, freeL, AVal.free, fillR, chunks, mkV, List.filter]
theorem u155 {a b c : Pt} (k : AreaOk a b c) (σ : Store) : Run X (.call 155) [.agg [.int .i64 a.h, .int .i64 a.f, .int .i64 a.p], .agg [.int .i64 b.h, .int .i64 b.f, .int .i64 b.p], .agg [.int .i64 c.h, .int .i64 c.f, .int .i64 c.p]] σ = some (.ret, [.int .i64 (area a b c)], σ) := by
  refine call3 (v := .int .i64 (area a b c)) hX.h155 rfl rfl rfl (by decide) (fun tm hl h0 h1 h2 => ?_) rfl σ
  simp only [AVal.strip, stripL] at h0 h1 h2
  replace hl : tm.length = 30 := hl
  unfold Gives area
  simp [xf155, hl, h0, h1, h2, k.w1, k.w2, k.w3, k.w4, k.w5, k.w6, k.w7, Store.empty, Store.new, Store.put, Store.get, look, putL, setR, Store.only, Store.merge, touch, wrote, upTo, isIn, okRec, hits, capsOf, xcaps, stripL, AVal.strip, freeL, AVal.free, fillR, chunks, mkV, List.filter]
theorem u87 {a b c : Pt} (k : AreaOk a b c) (σ : Store) : Run X (.call 87) [.agg [.int .i64 a.h, .int .i64 a.f, .int .i64 a.p], .agg [.int .i64 b.h, .int .i64 b.f, .int .i64 b.p], .agg [.int .i64 c.h, .int .i64 c.f, .int .i64 c.p]] σ = some (.ret, [.int .i64 (area a b c)], σ) := by
  refine call3 (v := .int .i64 (area a b c)) hX.h87 rfl rfl rfl (by decide) (fun tm hl h0 h1 h2 => ?_) rfl σ
  simp only [AVal.strip, stripL] at h0 h1 h2
  replace hl : tm.length = 30 := hl
  unfold Gives area
  simp [xf87, hl, h0, h1, h2, k.w1, k.w2, k.w3, k.w4, k.w5, k.w6, k.w7, Store.empty, Store.new, Store.put, Store.get, look, putL, setR, Store.only, Store.merge, touch, wrote, upTo, isIn, okRec, hits, capsOf, xcaps, stripL, AVal.strip, freeL, AVal.free, fillR, chunks, mkV, List.filter]
theorem u84 (p : Pt) (σ : Store) : Run X (.call 84) [.agg [.int .i64 p.h, .int .i64 p.f, .int .i64 p.p]] σ = some (.ret, [.agg [.int .i64 p.h, .int .i64 p.f, .int .i64 p.p]], σ) := by
  refine call1 (X := X) (a := .agg [.int .i64 p.h, .int .i64 p.f, .int .i64 p.p]) (v := .agg [.int .i64 p.h, .int .i64 p.f, .int .i64 p.p]) hX.h84 (by simp [AVal.strip, stripL, AVal.free, freeL]) (by decide) (fun tm hl h0 => ?_) rfl σ
  simp only [AVal.strip, stripL] at h0
  replace hl : tm.length = 10 := hl
  unfold Gives
  simp [xf84, hl, h0, Store.empty, Store.new, Store.put, Store.get, look, putL, setR, Store.only, Store.merge, touch, wrote, upTo, isIn, okRec, hits, capsOf, xcaps, stripL, AVal.strip, freeL, AVal.free, fillR, chunks, mkV, List.filter]
theorem u82 {x : Tri} (k : AreaOk x.a x.b x.c) (σ : Store) : Run X (.call 82) [.agg [.int .i64 x.a.h, .int .i64 x.a.f, .int .i64 x.a.p, .int .i64 x.oa, .int .i64 x.b.h, .int .i64 x.b.f, .int .i64 x.b.p, .int .i64 x.ob, .int .i64 x.c.h, .int .i64 x.c.f, .int .i64 x.c.p, .int .i64 x.oc]] σ = some (.ret, [.int .i64 x.area], σ) := by
  have u155 := u155 hX k
  refine call1 (v := .int .i64 x.area) hX.h82 rfl (by decide) (fun tm hl h0 => ?_) rfl σ
  simp only [AVal.strip, stripL] at h0
  replace hl : tm.length = 13 := hl
  unfold Gives Tri.area
  simp [xf82, hl, h0, u155, idx, Store.empty, Store.new, Store.put, Store.get, look, putL, setR, Store.only, Store.merge, touch, wrote, upTo, isIn, okRec, hits, capsOf, xcaps, stripL, AVal.strip, freeL, AVal.free, fillR, chunks, mkV, List.filter]
/-! The points of a row. -/
omit hX in
def I151 (l : List Pt) (v : AVal) (i : Nat) (tm : List AVal) (σ : Store) : Prop := tm.length = 21 ∧ XOpd.eval tm (.t 1) = .fn 152 [] [] ∧ XOpd.eval tm (.t 8) = v ∧ XOpd.eval tm (.t 9) = .int .i64 l.length ∧ XOpd.eval tm (.t 10) = .int .i64 i
omit hX in
theorem ptsE_fst (l : List Pt) : ptsE l = match fstP (fun i => decide (ptE (pat l i) ≠ 0)) l.length 0 with
    | some j => ptE (pat l j)
    | none => 0 := by
  have key : ∀ (m : List Pt) (k : Nat), l = (l.take k) ++ m → k + m.length = l.length → firstNZ (m.map ptE) = match fstP (fun i => decide (ptE (pat l i) ≠ 0)) m.length k with
    | some j => ptE (pat l j)
    | none => 0 := by
    intro m
    induction m with
    | nil => intro k _ _; rfl
    | cons a m ih =>
      intro k h1 h2
      have hk : k < l.length := by simp at h2; omega
      have hp : pat l k = a := by
        unfold pat
        rw [h1, List.getD_eq_getElem?_getD, List.getElem?_append_right (by simp; omega)]
        have : k - (l.take k).length = 0 := by simp; omega
        rw [this]; rfl
      have ht : l.take (k + 1) = l.take k ++ [a] := by
        rw [List.take_add_one]
        have : l[k]? = some a := by
          rw [h1, List.getElem?_append_right (by simp; omega)]
          have : k - (l.take k).length = 0 := by simp; omega
          rw [this]; rfl
        rw [this]; rfl
      simp only [List.map_cons, firstNZ, List.length_cons, fstP, hp]
      by_cases e : ptE a = 0
      · simp only [e, if_true, ne_eq, not_true_eq_false, decide_false, Bool.false_eq_true, if_false]
        exact ih (k + 1) (by rw [ht]; simpa using h1) (by simp at h2; omega)
      · simp only [e, if_false, ne_eq, not_false_eq_true, decide_true, if_true]
        rw [hp]
  exact key l 0 (by simp) (by simp)
theorem loop151 (l : List Pt) {v : AVal} (hv : PL l v) (hn : l.length ≤ 1000000) (tm : List AVal) (σ : Store) (hI : I151 l v 0 tm σ) :
    Ends (Run X (.code (.loop xf151l0)) tm σ) (exF (.exit 0) .ret (fstP (fun i => decide (ptE (pat l i) ≠ 0)) l.length 0)) (quF (fun tm _ => tm.length = 21) (fun j tm _ => tm.length = 21 ∧ XOpd.eval tm (.t 4) = .int .i64 (ptE (pat l j))) (fstP (fun i => decide (ptE (pat l i) ≠ 0)) l.length 0)) := by
  have hat : ∀ i, i < l.length → (encs l)[i]? = some (pat l i).enc := fun i hi => encs_get (by unfold pat; rw [List.getD_eq_getElem?_getD, List.getElem?_eq_getElem hi]; rfl)
  refine loop_stop l.length (fun i => decide (ptE (pat l i) ≠ 0)) (I151 l v) (by simp) (by simp) (fun i tm σ hi hp h => ?_) (fun i tm σ hi hp h => ?_) (fun tm σ h => ?_) l.length 0 (by omega) tm σ hI
  · obtain ⟨hl, h1, h8, h9, h10⟩ := h
    rw [hv.list (by omega)] at h8 ⊢
    have q := hat i hi
    have u := u152 hX (pat l i)
    have hw : IntKind.i64.wrap ((i : Int) + 1) = ((i + 1 : Nat) : Int) := by rw [wrap_i64] <;> omega
    simp only [Pt.enc] at q
    simp at hp
    simp [xf151l0, I151, hl, h1, h8, h9, h10, hi, q, u, hp, hw, put_next, new_next, Store.get_new, Store.get_put, put_get, setR, only_get, merge_get', only_next, merge_next, upTo_self, upTo_one, merge_only, touch, wrote, isIn, okRec, hits, capsOf, xcaps, stripL, AVal.strip, freeL, AVal.free, fillR, chunks, mkV]
  · obtain ⟨hl, h1, h8, h9, h10⟩ := h
    rw [hv.list (by omega)] at h8
    have q := hat i hi
    have u := u152 hX (pat l i)
    simp only [Pt.enc] at q
    simp at hp
    simp [xf151l0, hl, h1, h8, h9, h10, hi, q, u, hp, put_next, new_next, Store.get_new, Store.get_put, put_get, setR, only_get, merge_get', only_next, merge_next, upTo_self, upTo_one, merge_only, touch, wrote, isIn, okRec, hits, capsOf, xcaps, stripL, AVal.strip, freeL, AVal.free, fillR, chunks, mkV]
  · obtain ⟨hl, h1, h8, h9, h10⟩ := h
    simp [xf151l0, hl, h9, h10]
theorem u151 {l : List Pt} {v : AVal} (hv : PL l v) (hn : l.length ≤ 1000000) (σ : Store) : Run X (.call 151) [v, .fn 152 [] []] σ = some (.ret, [.int .i64 (ptsE l)], σ) := by
  refine call2 (v := .int .i64 (ptsE l)) hX.h151 (by rw [hv.strip]; exact hv.free) rfl (by decide) (fun tm hl h0 h1 => ?_) rfl σ
  rw [hv.strip] at h0
  simp only [AVal.strip, stripL] at h1
  replace hl : tm.length = 21 := hl
  have hL := fun tm σ h => out_of (loop151 hX l hv hn tm σ h)
  have hx := hv.xlen
  have c0 : ((0 : Nat) : Int) = 0 := rfl
  rw [ptsE_fst]
  unfold Gives
  cases hf : fstP (fun i => decide (ptE (pat l i) ≠ 0)) l.length 0 with
  | none =>
    simp only [hf, exF, quF, I151, c0] at hL
    simp (maxDischargeDepth := 12) [xf151, hl, h0, h1, hx, hL]
  | some j =>
    simp only [hf, exF, quF, I151, c0] at hL
    simp (maxDischargeDepth := 12) [xf151, hl, h0, h1, hx, hL]
end
end Go.Proofs.YtffacomibmgecaaGreat.Eng

/-
  MACHINE: rows, triangles one after the other.
-/
namespace Go.Proofs.YtffacomibmgecaaGreat.Eng
set_option linter.unusedSimpArgs false
set_option linter.unusedVariables false
def Tri.enc (x : Tri) : AVal := .agg [.int .i64 x.a.h, .int .i64 x.a.f, .int .i64 x.a.p, .int .i64 x.oa, .int .i64 x.b.h, .int .i64 x.b.f, .int .i64 x.b.p, .int .i64 x.ob, .int .i64 x.c.h, .int .i64 x.c.f, .int .i64 x.c.p, .int .i64 x.oc]
theorem nth_at {t : List Rw} {w : AVal} (h : TL t w) {i : Nat} (hi : i < t.length) : (rws t)[i]? = some (.agg [.int .i64 (nth t i).op, (nth t i).v]) ∧ PL (nth t i).pts (nth t i).v := by
  obtain ⟨r, h1, h2, h3, _⟩ := h.at hi
  have : nth t i = r := by unfold nth; rw [List.getD_eq_getElem?_getD, h1]; rfl
  rw [this]; exact ⟨h2, h3⟩
theorem pat_at {l : List Pt} {i : Nat} (hi : i < l.length) : (encs l)[i]? = some (.agg [.int .i64 (pat l i).h, .int .i64 (pat l i).f, .int .i64 (pat l i).p]) := encs_get (p := pat l i) (by unfold pat; rw [List.getD_eq_getElem?_getD, List.getElem?_eq_getElem hi]; rfl)
theorem pat_mem {l : List Pt} {i : Nat} (hi : i < l.length) : pat l i ∈ l := by unfold pat; rw [List.getD_eq_getElem?_getD, List.getElem?_eq_getElem hi]; exact List.getElem_mem hi
theorem rowE_eq (n : Nat) (op : Int) (l : List Pt) : firstNZ [if win op 0 100 then 0 else 2, if (decide (2 ≤ (l.length : Int)) && decide ((l.length : Int) = n)) then 0 else 10, if decide ((l.length : Int) ≤ 6) then 0 else 8, ptsE l] = rowE n op l := by
  unfold rowE
  cases c1 : win op 0 100
  · simp [firstNZ]
  · by_cases c2 : l.length < 2 ∨ l.length ≠ n
    · have : (decide (2 ≤ (l.length : Int)) && decide ((l.length : Int) = n)) = false := by
        simp only [Bool.and_eq_false_iff, decide_eq_false_iff_not]; omega
      simp [firstNZ, c2, this]
    · have : (decide (2 ≤ (l.length : Int)) && decide ((l.length : Int) = n)) = true := by
        simp only [Bool.and_eq_true, decide_eq_true_eq]; omega
      by_cases c3 : 6 < l.length
      · have d : ¬ (l.length : Int) ≤ 6 := by omega
        simp [firstNZ, c2, c3, this, d]
      · have d : (l.length : Int) ≤ 6 := by omega
        simp [firstNZ, c2, c3, this, d]
        intro h; exact h.symm
theorem ordE_eq {e a b : Int} : firstNZ [e, if decide (a < b) then 0 else 9, if decide (b ≤ a + 20) then 0 else 22] = if e ≠ 0 then e else ordE a b := by
  unfold ordE
  by_cases c : e = 0
  · subst c
    by_cases c1 : a < b
    · by_cases c2 : b ≤ a + 20
      · have : b - a ≤ 20 := by omega
        simp [firstNZ, c1, c2, this]
      · have : ¬ b - a ≤ 20 := by omega
        simp [firstNZ, c1, c2, this]
    · simp [firstNZ, c1]
  · simp [firstNZ, c]
section
variable {X : FuncId → Option XFunc} (hX : MtACode X)
include hX
set_option maxHeartbeats 1000000 in
theorem u80 {t : List Rw} {w : AVal} (h : TL t w) {i : Nat} (hi : i < t.length) (hn : t.length ≤ 1000000) (hm : (nth t i).pts.length ≤ 1000000) (hb : i ≠ 0 → 0 ≤ (nth t (i - 1)).op ∧ (nth t (i - 1)).op ≤ 100) (σ : Store) : Run X (.call 80) [w, .int .i64 i] σ = some (.ret, [.int .i64 (rowErr t i)], σ) := by
  have u4 := fun a b c d tok σ => u78 hX [a, b, c, d] (by simp) tok σ
  have u3 := fun a b c tok σ => u78 hX [a, b, c] (by simp) tok σ
  simp only [List.map_cons, List.map_nil] at u4 u3
  obtain ⟨q, hv⟩ := nth_at h hi
  obtain ⟨q0, hv0⟩ := nth_at h (i := 0) (by omega)
  have u151 := u151 hX hv hm
  have hw := h.list (by omega)
  have E := rowE_eq (nth t 0).pts.length (nth t i).op (nth t i).pts
  have x0 := hv0.xlen; have x1 := hv.xlen
  have o1 := hv.one; have s1 := hv.strip; have f1 := hv.free
  have o2 := hv0.one; have s2 := hv0.strip; have f2 := hv0.free
  refine call2 (v := .int .i64 (rowErr t i)) hX.h80 (by rw [h.strip]; exact h.free) rfl (by decide) (fun tm hl h0 h1 => ?_) rfl σ
  rw [h.strip, hw] at h0
  simp only [AVal.strip] at h1
  replace hl : tm.length = 62 := hl
  have sr : stripL (rws t) = rws t := freeL_strip (rws_free h.r)
  have fr : freeL (rws t) = true := rws_free h.r
  by_cases c0 : i = 0
  · subst c0
    have er : rowErr t 0 = rowE (nth t 0).pts.length (nth t 0).op (nth t 0).pts := by unfold rowErr; split <;> simp_all
    rw [er, ← E]
    unfold Gives
    by_cases c2 : 2 ≤ ((nth t 0).pts.length : Int)
    · simp [xf80, hl, h0, h1, q, u135 hX, u79 hX, u151, u4, x1, o1, s1, f1, c2, sr, fr, idx, Store.empty, Store.new, Store.put, Store.get, look, putL, setR, Store.only, Store.merge, touch, wrote, upTo, isIn, okRec, hits, capsOf, xcaps, stripL, AVal.strip, freeL, AVal.free, fillR, chunks, mkV, List.filter]
    · simp [xf80, hl, h0, h1, q, u135 hX, u79 hX, u151, u4, x1, o1, s1, f1, c2, sr, fr, idx, Store.empty, Store.new, Store.put, Store.get, look, putL, setR, Store.only, Store.merge, touch, wrote, upTo, isIn, okRec, hits, capsOf, xcaps, stripL, AVal.strip, freeL, AVal.free, fillR, chunks, mkV, List.filter]
  · have hb := hb c0
    obtain ⟨qb, hvb⟩ := nth_at h (i := i - 1) (by omega)
    have er : rowErr t i = firstNZ [rowE (nth t 0).pts.length (nth t i).op (nth t i).pts, if decide ((nth t (i - 1)).op < (nth t i).op) then 0 else 9, if decide ((nth t i).op ≤ (nth t (i - 1)).op + 20) then 0 else 22] := by
      rw [ordE_eq]; unfold rowErr; rw [if_neg c0]
    rw [er, ← E]
    have w1 : IntKind.i64.wrap ((i : Int) - 1) = ((i - 1 : Nat) : Int) := by rw [wrap_i64] <;> omega
    have w2 : IntKind.i64.wrap ((nth t (i - 1)).op + 20) = (nth t (i - 1)).op + 20 := by rw [wrap_i64] <;> omega
    have c0' : ¬ (i : Int) = 0 := by omega
    unfold Gives
    generalize nth t (i - 1) = rb at *
    generalize i - 1 = k at *
    generalize nth t i = r at *
    generalize nth t 0 = r0 at *
    by_cases c2 : 2 ≤ (r.pts.length : Int)
    · simp [xf80, hl, h0, h1, q, q0, qb, u135 hX, u79 hX, u151, u4, u3, x0, x1, o1, s1, f1, o2, s2, f2, c2, c0, c0', w1, w2, hvb.one, hvb.strip, hvb.free, sr, fr, idx, Store.empty, Store.new, Store.put, Store.get, look, putL, setR, Store.only, Store.merge, touch, wrote, upTo, isIn, okRec, hits, capsOf, xcaps, stripL, AVal.strip, freeL, AVal.free, fillR, chunks, mkV, List.filter]
    · simp [xf80, hl, h0, h1, q, q0, qb, u135 hX, u79 hX, u151, u4, u3, x0, x1, o1, s1, f1, o2, s2, f2, c2, c0, c0', w1, w2, hvb.one, hvb.strip, hvb.free, sr, fr, idx, Store.empty, Store.new, Store.put, Store.get, look, putL, setR, Store.only, Store.merge, touch, wrote, upTo, isIn, okRec, hits, capsOf, xcaps, stripL, AVal.strip, freeL, AVal.free, fillR, chunks, mkV, List.filter]
theorem u154 {t : List Rw} {w : AVal} (h : TL t w) {i k : Nat} (hi : i < t.length) (hk : k < (nth t i).pts.length) (σ : Store) : Run X (.call 154) [.int .i64 i, .int .i64 k, .iptr [w] 0] σ = some (.ret, [.agg [.int .i64 (pat (nth t i).pts k).h, .int .i64 (pat (nth t i).pts k).f, .int .i64 (pat (nth t i).pts k).p, .int .i64 (nth t i).op]], σ) := by
  obtain ⟨q, hv⟩ := nth_at h hi
  have hw := h.list (by omega)
  have hl' := hv.list (by omega)
  have qk := pat_at hk
  have sr : stripL (rws t) = rws t := freeL_strip (rws_free h.r)
  have fr : freeL (rws t) = true := rws_free h.r
  rw [hl'] at q
  rw [hw]
  refine call3 (v := .agg [.int .i64 (pat (nth t i).pts k).h, .int .i64 (pat (nth t i).pts k).f, .int .i64 (pat (nth t i).pts k).p, .int .i64 (nth t i).op]) hX.h154 rfl rfl (by simp [AVal.strip, stripL, AVal.free, freeL, sr, fr]) (by decide) (fun tm hl h0 h1 h2 => ?_) rfl σ
  simp only [AVal.strip, stripL, sr] at h0 h1 h2
  replace hl : tm.length = 22 := hl
  unfold Gives
  simp [xf154, hl, h0, h1, h2, q, qk, sr, fr, encs_strip, encs_free, Store.empty, Store.new, Store.put, Store.get, look, putL, setR, Store.only, Store.merge, touch, wrote, upTo, isIn, okRec, hits, capsOf, xcaps, stripL, AVal.strip, freeL, AVal.free, fillR, chunks, mkV, List.filter]
omit hX in
/-- The frame of the triangles. -/
def F153 (t : List Rw) (w : AVal) (m i : Nat) (tm : List AVal) : Prop := tm.length = 69 ∧ XOpd.eval tm (.t 0) = .yld m ∧ XOpd.eval tm (.t 1) = .iptr [w] 0 ∧ XOpd.eval tm (.t 3) = .fn 154 [] [.iptr [w] 0] ∧ XOpd.eval tm (.t 10) = .int .i64 ((t.length : Int) - 1) ∧ XOpd.eval tm (.t 11) = .int .i64 i
omit hX in
def Rounds (X : FuncId → Option XFunc) (t : List Rw) (m : Nat) (J : List (Nat × Tri) → Store → Prop) (K : Nat × Tri → Store → Prop) (p : Nat × Tri → Bool) : Prop :=
  ∀ x l σ, (∃ pre, tris t = pre ++ x :: l) → J (x :: l) σ → ∃ σ', Run X (.round m) [.int .i64 x.1, x.2.enc] σ = some (.ret, [.bool (!p x)], σ') ∧ (p x = false → J l σ') ∧ (p x = true → K x σ')
set_option maxHeartbeats 1000000 in
theorem loop153a {t : List Rw} {w : AVal} (h : TL t w) (hn : t.length ≤ 1000000) {m : Nat} {J : List (Nat × Tri) → Store → Prop} {K : Nat × Tri → Store → Prop} {p : Nat × Tri → Bool} (hrd : Rounds X t m J K p) {i : Nat} (hi : i + 1 < t.length) (hlen : (nth t (i + 1)).pts.length = (nth t i).pts.length) (hp6 : (nth t i).pts.length ≤ 1000000) (R : List (Nat × Tri)) :
    ∀ n k, k + n + 1 = (nth t i).pts.length → ∀ tm σ, F153 t w m i tm → XOpd.eval tm (.t 4) = .int .i64 i → XOpd.eval tm (.t 21) = .int .i64 (((nth t i).pts.length : Int) - 1) → XOpd.eval tm (.t 22) = .int .i64 k →
      (∃ pre, tris t = pre ++ ((trisB (nth t i) (nth t (i + 1)) n k).map (fun x => (i, x)) ++ R)) → J ((trisB (nth t i) (nth t (i + 1)) n k).map (fun x => (i, x)) ++ R) σ →
      match ((trisB (nth t i) (nth t (i + 1)) n k).map (fun x => (i, x))).find? p with
      | some x => ∃ tm' τ, Run X (.code (.loop xf153l0)) tm σ = some (.ret, tm', τ) ∧ K x τ
      | none => ∃ tm' τ, Run X (.code (.loop xf153l0)) tm σ = some (.exit 2, tm', τ) ∧ J R τ ∧ F153 t w m i tm'
  | 0, k, hk, tm, σ, hF, h4, h21, h22, hpre, hJ => by
    obtain ⟨hl, h0, h1, h3, h10, h11⟩ := hF
    have e : ((nth t i).pts.length : Int) - 1 = k := by omega
    rw [e] at h21
    simp only [trisB, List.map_nil, List.find?_nil, List.nil_append] at hJ ⊢
    refine ⟨putT tm (some 23) (.bool false), σ, ?_, hJ, ?_⟩
    · rw [Run_loop]
      simp [xf153l0, hl, h21, h22]
    · simp [F153, hl, h0, h1, h3, h10, h11]
  | n + 1, k, hk, tm, σ, hF, h4, h21, h22, hpre, hJ => by
    have ih := loop153a h hn hrd hi hlen hp6 R n (k + 1) (by omega)
    obtain ⟨hl, h0, h1, h3, h10, h11⟩ := hF
    have wk : IntKind.i64.wrap ((k : Int) + 1) = ((k + 1 : Nat) : Int) := by rw [wrap_i64] <;> omega
    have wi : IntKind.i64.wrap ((i : Int) + 1) = ((i + 1 : Nat) : Int) := by rw [wrap_i64] <;> omega
    have a0 := u154 hX h (i := i) (k := k) (by omega) (by omega)
    have a1 := u154 hX h (i := i) (k := k + 1) (by omega) (by omega)
    have b0 := u154 hX h (i := i + 1) (k := k) (by omega) (by omega)
    have b1 := u154 hX h (i := i + 1) (k := k + 1) (by omega) (by omega)
    have hlt : (k : Int) < ((nth t i).pts.length : Int) - 1 := by omega
    have ck : ((k + 1 : Nat) : Int) = (k : Int) + 1 := rfl
    have ci : ((i + 1 : Nat) : Int) = (i : Int) + 1 := rfl
    simp only [ck, ci] at a1 b0 b1 wk wi
    simp only [trisB, List.map_cons, List.cons_append] at hpre hJ ⊢
    obtain ⟨σ1, r1, j1, k1⟩ := hrd _ _ σ hpre hJ
    obtain ⟨pre, hpre⟩ := hpre
    simp only [Tri.enc, tri1] at r1
    cases c1 : p (i, tri1 (nth t i) (nth t (i + 1)) k) with
    | true =>
      simp only [c1, List.find?_cons]
      have c1' := c1
      simp only [tri1] at c1'
      have : Ends (Run X (.code (.loop xf153l0)) tm σ) .ret fun _ τ => τ = σ1 := by
        rw [Run_loop]
        simp only [c1'] at r1
        simp [xf153l0, hl, h0, h1, h3, h4, h21, h22, hlt, a0, a1, b0, b1, wk, wi, r1, put_next, new_next, Store.get_new, Store.get_put, put_get, setR, only_get, merge_get', only_next, merge_next, upTo_self, upTo_one, merge_only, touch, wrote, isIn, okRec, hits, capsOf, xcaps, stripL, AVal.strip, freeL, AVal.free, fillR, chunks, mkV]
      obtain ⟨tm', τ, e1, e2⟩ := this
      exact ⟨tm', τ, e1, by rw [e2]; exact k1 c1⟩
    | false =>
      have j1 := j1 c1
      obtain ⟨σ2, r2, j2, k2⟩ := hrd (i, tri2 (nth t i) (nth t (i + 1)) k) _ σ1 ⟨pre ++ [(i, tri1 (nth t i) (nth t (i + 1)) k)], by rw [hpre]; simp⟩ j1
      simp only [Tri.enc, tri2] at r2
      simp only [List.find?_cons, c1]
      have c1' := c1
      simp only [tri1] at c1'
      simp only [c1'] at r1
      cases c2 : p (i, tri2 (nth t i) (nth t (i + 1)) k) with
      | true =>
        simp only
        have c2' := c2
        simp only [tri2] at c2'
        simp only [c2'] at r2
        have : Ends (Run X (.code (.loop xf153l0)) tm σ) .ret fun _ τ => τ = σ2 := by
          rw [Run_loop]
          simp [xf153l0, hl, h0, h1, h3, h4, h21, h22, hlt, a0, a1, b0, b1, wk, wi, r1, r2, put_next, new_next, Store.get_new, Store.get_put, put_get, setR, only_get, merge_get', only_next, merge_next, upTo_self, upTo_one, merge_only, touch, wrote, isIn, okRec, hits, capsOf, xcaps, stripL, AVal.strip, freeL, AVal.free, fillR, chunks, mkV]
        obtain ⟨tm', τ, e1, e2⟩ := this
        exact ⟨tm', τ, e1, by rw [e2]; exact k2 c2⟩
      | false =>
        simp only
        have c2' := c2
        simp only [tri2] at c2'
        simp only [c2'] at r2
        have key : Ends (Run X (.code xf153l0) tm σ) .normal fun tm' τ => τ = σ2 ∧ F153 t w m i tm' ∧ XOpd.eval tm' (.t 4) = .int .i64 i ∧ XOpd.eval tm' (.t 21) = .int .i64 (((nth t i).pts.length : Int) - 1) ∧ XOpd.eval tm' (.t 22) = .int .i64 ((k + 1 : Nat) : Int) := by
          simp [xf153l0, F153, hl, h0, h1, h3, h4, h10, h11, h21, h22, hlt, a0, a1, b0, b1, wk, wi, r1, r2, put_next, new_next, Store.get_new, Store.get_put, put_get, setR, only_get, merge_get', only_next, merge_next, upTo_self, upTo_one, merge_only, touch, wrote, isIn, okRec, hits, capsOf, xcaps, stripL, AVal.strip, freeL, AVal.free, fillR, chunks, mkV]
        obtain ⟨o1, o2, o3, o4, o5, o6⟩ := out_of key
        rw [Run_loop, o1, thenC_normal]
        exact ih _ _ o3 o4 o5 o6 ⟨pre ++ [(i, tri1 (nth t i) (nth t (i + 1)) k), (i, tri2 (nth t i) (nth t (i + 1)) k)], by rw [hpre]; simp⟩ (by rw [o2]; exact j2 c2)
set_option maxHeartbeats 1000000 in
theorem loop153b {t : List Rw} {w : AVal} (h : TL t w) (ok : TOk t) {m : Nat} {J : List (Nat × Tri) → Store → Prop} {K : Nat × Tri → Store → Prop} {p : Nat × Tri → Bool} (hrd : Rounds X t m J K p) :
    ∀ n i, i + n + 1 = t.length → ∀ tm σ, F153 t w m i tm → (∃ pre, tris t = pre ++ trisF t n i) → J (trisF t n i) σ →
      match (trisF t n i).find? p with
      | some x => ∃ tm' τ, Run X (.code (.loop xf153l1)) tm σ = some (.ret, tm', τ) ∧ K x τ
      | none => ∃ tm' τ, Run X (.code (.loop xf153l1)) tm σ = some (.exit 0, tm', τ) ∧ J [] τ
  | 0, i, hk, tm, σ, hF, hpre, hJ => by
    obtain ⟨hl, h0, h1, h3, h10, h11⟩ := hF
    have e : (t.length : Int) - 1 = i := by omega
    rw [e] at h10
    simp only [trisF, List.find?_nil] at hJ ⊢
    refine ⟨putT tm (some 12) (.bool false), σ, ?_, hJ⟩
    rw [Run_loop]
    simp [xf153l1, hl, h10, h11]
  | n + 1, i, hk, tm, σ, hF, hpre, hJ => by
    have ih := loop153b h ok hrd n (i + 1) (by omega)
    have t6 := ok.six
    have l0 := ok.len i (by omega); have l1 := ok.len (i + 1) (by omega); have p2 := ok.p2; have p6 := ok.p6
    obtain ⟨q, hv⟩ := nth_at h (i := i) (by omega)
    have hx := hv.xlen
    have wl := h.list (by omega)
    obtain ⟨hl, h0, h1, h3, h10, h11⟩ := hF
    have hlt : (i : Int) < (t.length : Int) - 1 := by omega
    have wi : IntKind.i64.wrap ((i : Int) + 1) = ((i + 1 : Nat) : Int) := by rw [wrap_i64] <;> omega
    have wl1 : IntKind.i64.wrap (((nth t i).pts.length : Int) - 1) = ((nth t i).pts.length : Int) - 1 := by rw [wrap_i64] <;> omega
    simp only [trisF] at hpre hJ ⊢
    obtain ⟨R, hR⟩ : ∃ R, R = trisF t n (i + 1) := ⟨_, rfl⟩
    have hA : trisAt t i = trisB (nth t i) (nth t (i + 1)) ((nth t i).pts.length - 1) 0 := rfl
    rw [← hR] at hpre hJ ih ⊢
    rw [hA] at hpre hJ ⊢
    have L := fun tm' a1 a2 a3 a4 a5 a6 a7 a8 a9 => loop153a hX h (by omega) hrd (i := i) (by omega) (by omega) (by omega) R ((nth t i).pts.length - 1) 0 (by omega) tm' σ ⟨a1, a2, a3, a4, a5, a6⟩ a7 a8 a9 hpre hJ
    rw [List.find?_append]
    obtain ⟨pre, hpre⟩ := hpre
    cases hf : ((trisB (nth t i) (nth t (i + 1)) ((nth t i).pts.length - 1) 0).map (fun x => (i, x))).find? p with
    | some x =>
      rw [hf] at L
      simp only [Option.some_or]
      have hI := fun tm' a1 a2 a3 a4 a5 a6 a7 a8 a9 => out_of (show Ends (Run X (.code (.loop xf153l0)) tm' σ) .ret (fun _ τ => K x τ) from by obtain ⟨a, b, c, d⟩ := L tm' a1 a2 a3 a4 a5 a6 a7 a8 a9; exact ⟨a, b, c, d⟩)
      have c0 : ((0 : Nat) : Int) = 0 := rfl
      simp only [c0] at hI
      have : Ends (Run X (.code (.loop xf153l1)) tm σ) .ret fun _ τ => K x τ := by
        rw [Run_loop]
        rw [wl] at h1 h3 hI
        simp (maxDischargeDepth := 24) [xf153l1, hl, h0, h1, h3, h10, h11, hlt, q, hx, wl1, hI, AVal.cells, put_next, new_next, Store.get_new, Store.get_put, put_get, setR, only_get, merge_get', only_next, merge_next, upTo_self, upTo_one, merge_only, touch, wrote, isIn, okRec, hits, capsOf, xcaps, stripL, AVal.strip, freeL, AVal.free, fillR, chunks, mkV]
      obtain ⟨a, b, c, d⟩ := this
      exact ⟨a, b, c, d⟩
    | none =>
      rw [hf] at L
      simp only [Option.none_or]
      have hI := fun tm' a1 a2 a3 a4 a5 a6 a7 a8 a9 => out_of (show Ends (Run X (.code (.loop xf153l0)) tm' σ) (.exit 2) (fun tm2 τ => J R τ ∧ F153 t w m i tm2) from by obtain ⟨a, b, c, d, e⟩ := L tm' a1 a2 a3 a4 a5 a6 a7 a8 a9; exact ⟨a, b, c, d, e⟩)
      have c0 : ((0 : Nat) : Int) = 0 := rfl
      simp only [c0] at hI
      have key : Ends (Run X (.code xf153l1) tm σ) .normal fun tm' τ => J R τ ∧ F153 t w m (i + 1) tm' := by
        rw [wl] at h1 h3 hI ⊢
        simp only [F153] at hI
        simp (maxDischargeDepth := 24) [xf153l1, F153, hl, h0, h1, h3, h10, h11, hlt, q, hx, wl1, wi, hI, AVal.cells, put_next, new_next, Store.get_new, Store.get_put, put_get, setR, only_get, merge_get', only_next, merge_next, upTo_self, upTo_one, merge_only, touch, wrote, isIn, okRec, hits, capsOf, xcaps, stripL, AVal.strip, freeL, AVal.free, fillR, chunks, mkV]
      obtain ⟨o1, o2, o3⟩ := out_of key
      have ih := ih _ _ o3 ⟨pre ++ (trisB (nth t i) (nth t (i + 1)) ((nth t i).pts.length - 1) 0).map (fun x => (i, x)), by rw [hpre]; simp⟩ o2
      rw [Run_loop, o1, thenC_normal]
      exact ih
theorem it153 {t : List Rw} {w : AVal} (h : TL t w) (ok : TOk t) {m : Nat} {J : List (Nat × Tri) → Store → Prop} {K : Nat × Tri → Store → Prop} {p : Nat × Tri → Bool} (hrd : Rounds X t m J K p) (σ : Store) (hJ : J (tris t) σ) :
    match (tris t).find? p with
    | some x => ∃ τ, Run X (.call 153) [.yld m, .iptr [w] 0] σ = some (.ret, [.tup []], τ) ∧ K x τ
    | none => ∃ τ, Run X (.call 153) [.yld m, .iptr [w] 0] σ = some (.ret, [.tup []], τ) ∧ J [] τ := by
  have t2 := ok.two; have t6 := ok.six
  have wl := h.list (by omega)
  have hx := h.xlen
  have w1 : IntKind.i64.wrap ((t.length : Int) - 1) = (t.length : Int) - 1 := by rw [wrap_i64] <;> omega
  have L := fun tm' a1 a2 a3 a4 a5 a6 => loop153b hX h ok hrd (t.length - 1) 0 (by omega) tm' σ ⟨a1, a2, a3, a4, a5, a6⟩ ⟨[], rfl⟩ hJ
  have hT : tris t = trisF t (t.length - 1) 0 := rfl
  have hnp : freeL (stripL [.yld m, .iptr [w] 0]) = false := by simp [stripL, AVal.strip, freeL, AVal.free]
  rw [hT]
  have c0 : ((0 : Nat) : Int) = 0 := rfl
  have fl : (frame [.yld m, .iptr [w] 0] 69).length = 69 := by simp
  have f0 : XOpd.eval (frame [.yld m, .iptr [w] 0] 69) (.t 0) = .yld m := by simp
  have f1 : XOpd.eval (frame [.yld m, .iptr [w] 0] 69) (.t 1) = .iptr [w] 0 := by simp
  have n69 : xf153.ntmps = 69 := rfl
  cases hf : (trisF t (t.length - 1) 0).find? p with
  | some x =>
    rw [hf] at L
    simp only
    have hI := fun tm' a1 a2 a3 a4 a5 a6 => out_of (show Ends (Run X (.code (.loop xf153l1)) tm' σ) .ret (fun _ τ => K x τ) from by obtain ⟨a, b, c, d⟩ := L tm' a1 a2 a3 a4 a5 a6; exact ⟨a, b, c, d⟩)
    simp only [c0] at hI
    have key : Ends (Run X (.code xf153.body) (frame [.yld m, .iptr [w] 0] 69) σ) .ret fun _ τ => K x τ := by
      rw [wl] at f0 f1 fl hI hx ⊢
      simp (maxDischargeDepth := 24) [xf153, fl, f0, f1, hx, w1, hI, AVal.cells, put_next, new_next, Store.get_new, Store.get_put, put_get, setR, only_get, merge_get', only_next, merge_next, upTo_self, upTo_one, merge_only, touch, wrote, isIn, okRec, hits, capsOf, xcaps, stripL, AVal.strip, freeL, AVal.free, fillR, chunks, mkV]
    obtain ⟨tm', τ, e1, e2⟩ := key
    refine ⟨τ, ?_, e2⟩
    rw [call_np hX.h153 hnp, n69, e1]; rfl
  | none =>
    rw [hf] at L
    simp only
    have hI := fun tm' a1 a2 a3 a4 a5 a6 => out_of (show Ends (Run X (.code (.loop xf153l1)) tm' σ) (.exit 0) (fun _ τ => J [] τ) from by obtain ⟨a, b, c, d⟩ := L tm' a1 a2 a3 a4 a5 a6; exact ⟨a, b, c, d⟩)
    simp only [c0] at hI
    have key : Ends (Run X (.code xf153.body) (frame [.yld m, .iptr [w] 0] 69) σ) .normal fun _ τ => J [] τ := by
      rw [wl] at f0 f1 fl hI hx ⊢
      simp (maxDischargeDepth := 24) [xf153, fl, f0, f1, hx, w1, hI, AVal.cells, put_next, new_next, Store.get_new, Store.get_put, put_get, setR, only_get, merge_get', only_next, merge_next, upTo_self, upTo_one, merge_only, touch, wrote, isIn, okRec, hits, capsOf, xcaps, stripL, AVal.strip, freeL, AVal.free, fillR, chunks, mkV]
    obtain ⟨tm', τ, e1, e2⟩ := key
    refine ⟨τ, ?_, e2⟩
    rw [call_np hX.h153 hnp, n69, e1]; rfl
end
end Go.Proofs.YtffacomibmgecaaGreat.Eng

/-
  MACHINE: the check of tables, areas, bounds.
-/
namespace Go.Proofs.YtffacomibmgecaaGreat.Eng
set_option linter.unusedSimpArgs false
set_option linter.unusedVariables false
theorem fstIx_fst (f : Nat → Int) : ∀ n i, fstIx f n i = match fstP (fun i => decide (f i ≠ 0)) n i with
    | some j => (j, f j)
    | none => (0, 0)
  | 0, i => rfl
  | n + 1, i => by
    unfold fstIx fstP
    by_cases e : f i = 0
    · simp [e]
      have := fstIx_fst f n (i + 1)
      simp at this
      exact this
    · simp [e]
theorem fstBad_find (l : List (Nat × Tri)) : fstBad l = match l.find? (fun x => decide (x.2.area ≤ 0)) with
    | some x => (x.1, 13)
    | none => (0, 0) := by
  induction l with
  | nil => rfl
  | cons x l ih =>
    unfold fstBad
    by_cases e : x.2.area ≤ 0
    · simp [e]
    · simp [e, ih]
/-- The triangles of a valid table have valid points. -/
def TriOk (x : Tri) : Prop := PtOk x.a ∧ PtOk x.b ∧ PtOk x.c
theorem trisB_ok {a b : Rw} (ha : ∀ p, p ∈ a.pts → PtOk p) (hb : ∀ p, p ∈ b.pts → PtOk p) (hl : b.pts.length = a.pts.length) : ∀ n k, k + n + 1 = a.pts.length → ∀ x, x ∈ trisB a b n k → TriOk x
  | 0, k, h, x, hx => by simp [trisB] at hx
  | n + 1, k, h, x, hx => by
    simp only [trisB, List.mem_cons] at hx
    rcases hx with rfl | rfl | hx
    · exact ⟨ha _ (pat_mem (by omega)), ha _ (pat_mem (by omega)), hb _ (pat_mem (by omega))⟩
    · exact ⟨ha _ (pat_mem (by omega)), hb _ (pat_mem (by omega)), hb _ (pat_mem (by omega))⟩
    · exact trisB_ok ha hb hl n (k + 1) (by omega) x hx
theorem trisF_ok {t : List Rw} (ok : TOk t) : ∀ n i, i + n + 1 = t.length → ∀ x, x ∈ trisF t n i → TriOk x.2
  | 0, i, h, x, hx => by simp [trisF] at hx
  | n + 1, i, h, x, hx => by
    simp only [trisF, List.mem_append] at hx
    rcases hx with hx | hx
    · obtain ⟨y, hy, rfl⟩ := List.mem_map.1 hx
      have l0 := ok.len i (by omega); have l1 := ok.len (i + 1) (by omega); have p2 := ok.p2
      exact trisB_ok (ok.pt i (by omega)) (ok.pt (i + 1) (by omega)) (by omega) _ 0 (by omega) y hy
    · exact trisF_ok ok n (i + 1) (by omega) x hx
theorem tris_ok {t : List Rw} (ok : TOk t) : ∀ x, x ∈ tris t → TriOk x.2 := by
  have := ok.two
  exact trisF_ok ok _ 0 (by omega)
theorem trisB_len (a b : Rw) : ∀ n k, (trisB a b n k).length = 2 * n
  | 0, k => rfl
  | n + 1, k => by simp [trisB, trisB_len a b n (k + 1)]; omega
theorem trisF_len {t : List Rw} (ok : TOk t) : ∀ n i, i + n + 1 = t.length → (trisF t n i).length ≤ 10 * n
  | 0, i, h => by simp [trisF]
  | n + 1, i, h => by
    have := trisF_len ok n (i + 1) (by omega)
    have l0 := ok.len i (by omega); have p6 := ok.p6
    simp [trisF, trisAt, trisB_len]; omega
theorem tris_len {t : List Rw} (ok : TOk t) : (tris t).length ≤ 50 := by
  have := trisF_len ok (t.length - 1) 0 (by have := ok.two; omega)
  have := ok.six
  unfold tris; omega
theorem areaS_bd {l : List (Nat × Tri)} (h : ∀ x, x ∈ l → TriOk x.2) : -(8000000 * (l.length : Int)) ≤ areaS l ∧ areaS l ≤ 8000000 * (l.length : Int) := by
  induction l with
  | nil => simp [areaS]
  | cons x l ih =>
    have ih := ih (fun y hy => h y (List.mem_cons_of_mem _ hy))
    obtain ⟨a, b, c⟩ := h x (by simp)
    have k := area_ok a b c
    have := k.lo; have := k.hi
    have e : areaS (x :: l) = x.2.area + areaS l := by simp [areaS]
    unfold Tri.area at e
    rw [e]; simp only [List.length_cons]; omega
section
variable {X : FuncId → Option XFunc} (hX : MtACode X)
include hX
theorem u81 {t : List Rw} {w : AVal} (h : TL t w) (σ : Store) : Run X (.call 81) [.agg [w]] σ = some (.ret, [.fn 153 [] [.iptr [w] 0]], σ) := by
  have key := call1 (X := X) (a := .agg [w]) (v := .fn 153 [] [.iptr [w] 0]) hX.h81 (by simp [AVal.strip, stripL, AVal.free, freeL, h.strip, h.free]) (by decide) (fun tm hl h0 => ?_) (by simp [AVal.strip, stripL, AVal.free, freeL, h.strip, h.free]) σ
  · simpa [AVal.strip, stripL, h.strip] using key
  simp only [AVal.strip, stripL, h.strip] at h0
  replace hl : tm.length = 4 := hl
  unfold Gives
  simp [xf81, hl, h0, h.free, Store.empty, Store.new, Store.put, Store.get, look, putL, setR, Store.only, Store.merge, touch, wrote, upTo, isIn, okRec, hits, capsOf, xcaps, stripL, AVal.strip, freeL, AVal.free, fillR, chunks, mkV, List.filter]
omit hX in
def I17 (t : List Rw) (w : AVal) (i : Nat) (tm : List AVal) (σ : Store) : Prop := tm.length = 47 ∧ XOpd.eval tm (.t 1) = .ptr 0 0 ∧ XOpd.eval tm (.t 2) = .ptr 1 0 ∧ XOpd.eval tm (.t 3) = .ptr 2 0 ∧ XOpd.eval tm (.t 26) = .int .i64 t.length ∧ XOpd.eval tm (.t 27) = .int .i64 i ∧ (∀ j, j < i → rowErr t j = 0) ∧ σ.get 0 = some (.cells [w]) ∧ σ.get 1 = some (.cells [.int .i64 0]) ∧ σ.get 2 = some (.cells [.int .i64 0]) ∧ σ.next = 4
theorem loop17 {t : List Rw} {w : AVal} (h : TL t w) (h2 : 2 ≤ t.length) (hn : t.length ≤ 6) (hp : ∀ r, r ∈ t → r.pts.length ≤ 1000000) (tm : List AVal) (σ : Store) (hI : I17 t w 0 tm σ) :
    Ends (Run X (.code (.loop xf17l0)) tm σ) (exF (.exit 0) .ret (fstP (fun i => decide (rowErr t i ≠ 0)) t.length 0)) (quF (fun tm σ => I17 t w t.length tm σ) (fun j tm σ => tm.length = 47 ∧ XOpd.eval tm (.t 2) = .ptr 1 0 ∧ XOpd.eval tm (.t 3) = .ptr 2 0 ∧ σ.get 1 = some (.cells [.int .i64 j]) ∧ σ.get 2 = some (.cells [.int .i64 (rowErr t j)])) (fstP (fun i => decide (rowErr t i ≠ 0)) t.length 0)) := by
  have wl := h.list (by omega)
  have pm : ∀ i, i < t.length → (nth t i).pts.length ≤ 1000000 := fun i hi => hp _ (by unfold nth; rw [List.getD_eq_getElem?_getD, List.getElem?_eq_getElem hi]; exact List.getElem_mem hi)
  have ub : ∀ i, i < t.length → (∀ j, j < i → rowErr t j = 0) → ∀ σ, Run X (.call 80) [w, .int .i64 i] σ = some (.ret, [.int .i64 (rowErr t i)], σ) := fun i hi hj => u80 hX h hi (by omega) (pm i hi) (fun h0 => by
    have := (rowE_ok (rowErr_ok (hj (i - 1) (by omega))).1).1
    exact this)
  refine loop_stop t.length (fun i => decide (rowErr t i ≠ 0)) (I17 t w) (by simp) (by simp) (fun i tm σ hi hp h => ?_) (fun i tm σ hi hp h => ?_) (fun tm σ h => ?_) t.length 0 (by omega) tm σ hI
  · obtain ⟨hl, h1, h2', h3, h26, h27, hj, g0, g1, g2, gn⟩ := h
    have u := ub i hi hj
    have hw : IntKind.i64.wrap ((i : Int) + 1) = ((i + 1 : Nat) : Int) := by rw [wrap_i64] <;> omega
    simp at hp
    rw [wl] at u g0 ⊢
    have hj' : ∀ j, j < i + 1 → rowErr t j = 0 := fun j h => by
      by_cases e : j = i
      · rw [e]; exact hp
      · exact hj j (by omega)
    simp [xf17l0, I17, hl, h1, h2', h3, h26, h27, g0, g1, g2, gn, hi, u, hp, hw, put_next, new_next, Store.get_new, Store.get_put, put_get, setR, only_get, merge_get', only_next, merge_next, upTo_self, upTo_one, merge_only, touch, wrote, isIn, okRec, hits, capsOf, xcaps, stripL, AVal.strip, freeL, AVal.free, fillR, chunks, mkV]
    exact hj'
  · obtain ⟨hl, h1, h2', h3, h26, h27, hj, g0, g1, g2, gn⟩ := h
    have u := ub i hi hj
    simp at hp
    rw [wl] at u g0
    simp [xf17l0, hl, h1, h2', h3, h26, h27, g0, g1, g2, gn, hi, u, hp, put_next, new_next, Store.get_new, Store.get_put, put_get, setR, only_get, merge_get', only_next, merge_next, upTo_self, upTo_one, merge_only, touch, wrote, isIn, okRec, hits, capsOf, xcaps, stripL, AVal.strip, freeL, AVal.free, fillR, chunks, mkV]
  · obtain ⟨hl, h1, h2', h3, h26, h27, hj, g0, g1, g2, gn⟩ := h
    simp [xf17l0, I17, hl, h1, h2', h3, h26, h27, g0, g1, g2, gn, hj, put_next, new_next, Store.get_new, Store.get_put, put_get, setR, only_get, merge_get', only_next, merge_next, upTo_self, upTo_one, merge_only, touch, wrote, isIn, okRec, hits, capsOf, xcaps, stripL, AVal.strip, freeL, AVal.free, fillR, chunks, mkV]
    exact hj
/-- A round of the check. -/
theorem rnd17 {tmR : List AVal} (hl : tmR.length = 47) (h2 : XOpd.eval tmR (.t 2) = .ptr 1 0) (h3 : XOpd.eval tmR (.t 3) = .ptr 2 0) {x : Nat × Tri} (k : TriOk x.2) {σ : Store} (nx : 5 ≤ σ.next) (g0 : σ.get 1 = some (.cells [.int .i64 0])) (g1 : σ.get 2 = some (.cells [.int .i64 0])) (g2 : σ.get 4 = some (.oth (.loop .ready tmR [41, 42] xf17a1 xf17b1))) :
    ∃ σ', Run X (.round 4) [.int .i64 x.1, x.2.enc] σ = some (.ret, [.bool (!decide (x.2.area ≤ 0))], σ') ∧ (decide (x.2.area ≤ 0) = false → 5 ≤ σ'.next ∧ σ'.get 1 = some (.cells [.int .i64 0]) ∧ σ'.get 2 = some (.cells [.int .i64 0]) ∧ σ'.get 4 = some (.oth (.loop .ready tmR [41, 42] xf17a1 xf17b1))) ∧
      (decide (x.2.area ≤ 0) = true → σ'.get 1 = some (.cells [.int .i64 x.1]) ∧ σ'.get 2 = some (.cells [.int .i64 13]) ∧ ∃ tm, σ'.get 4 = some (.oth (.loop (.done .ret) tm [41, 42] xf17a1 xf17b1))) := by
  obtain ⟨N, hN⟩ : ∃ N, σ.next = N + 5 := ⟨σ.next - 5, by omega⟩
  have u := u82 hX (area_ok k.1 k.2.1 k.2.2)
  have hin : roundIn σ 4 [.int .i64 x.1, x.2.enc] = some ((tmR.set 41 (.int .i64 x.1)).set 42 x.2.enc, xf17a1, xf17b1) := by
    unfold roundIn
    rw [g2]; rfl
  have eA : Ends (Run X (.code xf17a1) ((tmR.set 41 (.int .i64 x.1)).set 42 x.2.enc) σ) .normal fun tm σ1 => tm.length = 47 ∧ XOpd.eval tm (.t 2) = .ptr 1 0 ∧ XOpd.eval tm (.t 3) = .ptr 2 0 ∧ XOpd.eval tm (.t 7) = .int .i64 x.1 ∧ XOpd.eval tm (.t 8) = .ptr (N + 5) 0 ∧ σ1.next = N + 6 ∧ σ1.get 1 = σ.get 1 ∧ σ1.get 2 = σ.get 2 ∧ σ1.get 4 = σ.get 4 ∧ σ1.get (N + 5) = some (.cells x.2.enc.cells) := by
    have e1 : (tmR.set 41 (.int .i64 x.1)).set 42 x.2.enc = putT (putT tmR (some 41) (.int .i64 x.1)) (some 42) x.2.enc := rfl
    rw [e1]
    simp [xf17a1, Tri.enc, hl, h2, h3, hN, AVal.cells, put_next, new_next, Store.get_new, Store.get_put, put_get, setR, only_get, merge_get', only_next, merge_next, upTo_self, upTo_one, merge_only, touch, wrote, isIn, okRec, hits, capsOf, xcaps, stripL, AVal.strip, freeL, AVal.free, fillR, chunks, mkV]
  obtain ⟨o1, o2, o3, o4, o5, o6, o7, o8, o9, o10, o11⟩ := out_of eA
  generalize outT X xf17a1 _ σ = tm1 at *
  generalize outS X xf17a1 _ σ = σ1 at *
  have hmid : roundMid σ1 4 = some (σ1.put 4 (.oth (.loop .busy tmR [41, 42] xf17a1 xf17b1))) := by
    unfold roundMid
    rw [o10, g2]
  simp only [Tri.enc, AVal.cells] at o11
  by_cases c : x.2.area ≤ 0
  · have eB : Ends (Run X (.code xf17b1) tm1 (σ1.put 4 (.oth (.loop .busy tmR [41, 42] xf17a1 xf17b1)))) .ret fun _ σ3 => σ3.get 1 = some (.cells [.int .i64 x.1]) ∧ σ3.get 2 = some (.cells [.int .i64 13]) ∧ σ3.get 4 = some (.oth (.loop .busy tmR [41, 42] xf17a1 xf17b1)) := by
      rw [g0] at o8
      rw [g1] at o9
      generalize (NObj.oth (.loop .busy tmR [41, 42] xf17a1 xf17b1)) = ob
      simp [xf17b1, o2, o3, o4, o5, o6, o7, o8, o9, o11, u, c, put_next, new_next, Store.get_new, Store.get_put, put_get, setR, only_get, merge_get', only_next, merge_next, upTo_self, upTo_one, merge_only, touch, wrote, isIn, okRec, hits, capsOf, xcaps, stripL, AVal.strip, freeL, AVal.free, fillR, chunks, mkV]
    obtain ⟨p1, p2, p3, p4⟩ := out_of eB
    generalize outT X xf17b1 _ _ = tm3 at *
    generalize outS X xf17b1 _ _ = σ3 at *
    have hout : roundOut σ3 4 .ret = some (σ3.put 4 (.oth (.loop (.done .ret) tmR [41, 42] xf17a1 xf17b1))) := by
      unfold roundOut
      rw [p4]; rfl
    refine ⟨σ3.put 4 (.oth (.loop (.done .ret) tmR [41, 42] xf17a1 xf17b1)), by rw [Run_round hin o1 hmid p1 hout]; simp [c, XExit.isN], fun h => by simp [c] at h, fun _ => ⟨by rw [Store.get_put, Mem.put_ne _ (by decide), p2], by rw [Store.get_put, Mem.put_ne _ (by decide), p3], _, by rw [Store.get_put, Mem.put_self]⟩⟩
  · have eB : Ends (Run X (.code xf17b1) tm1 (σ1.put 4 (.oth (.loop .busy tmR [41, 42] xf17a1 xf17b1)))) .normal fun _ σ3 => σ3.next = N + 6 ∧ σ3.get 1 = some (.cells [.int .i64 0]) ∧ σ3.get 2 = some (.cells [.int .i64 0]) ∧ σ3.get 4 = some (.oth (.loop .busy tmR [41, 42] xf17a1 xf17b1)) := by
      rw [g0] at o8
      rw [g1] at o9
      generalize (NObj.oth (.loop .busy tmR [41, 42] xf17a1 xf17b1)) = ob
      simp [xf17b1, o2, o3, o4, o5, o6, o7, o8, o9, o11, u, c, put_next, new_next, Store.get_new, Store.get_put, put_get, setR, only_get, merge_get', only_next, merge_next, upTo_self, upTo_one, merge_only, touch, wrote, isIn, okRec, hits, capsOf, xcaps, stripL, AVal.strip, freeL, AVal.free, fillR, chunks, mkV]
    obtain ⟨p1, p0, p2, p3, p4⟩ := out_of eB
    generalize outT X xf17b1 _ _ = tm3 at *
    generalize outS X xf17b1 _ _ = σ3 at *
    have hout : roundOut σ3 4 .normal = some (σ3.put 4 (.oth (.loop .ready tmR [41, 42] xf17a1 xf17b1))) := by
      unfold roundOut
      rw [p4]; rfl
    refine ⟨σ3.put 4 (.oth (.loop .ready tmR [41, 42] xf17a1 xf17b1)), by rw [Run_round hin o1 hmid p1 hout]; simp [c, XExit.isN], fun _ => ⟨by show 5 ≤ σ3.next; omega, by rw [Store.get_put, Mem.put_ne _ (by decide), p2], by rw [Store.get_put, Mem.put_ne _ (by decide), p3], by rw [Store.get_put, Mem.put_self]⟩, fun h => by simp [c] at h⟩
omit hX in
theorem chkT_rows {t : List Rw} (h2 : 2 ≤ t.length) (h6 : t.length ≤ 6) (hr : (fstIx (rowErr t) t.length 0).2 = 0) : chkT t = fstBad (tris t) := by
  unfold chkT tris
  rw [if_neg (by omega), if_neg (by omega), if_neg (by simp [hr]), fstBad_tris]
set_option maxHeartbeats 1000000 in
theorem u17 {t : List Rw} {w : AVal} (h : TL t w) (hn : t.length ≤ 1000000) (hp : ∀ r, r ∈ t → r.pts.length ≤ 1000000) (σ : Store) : Run X (.call 17) [.agg [w]] σ = some (.ret, [.tup [.int .i64 (chkT t).1, .int .i64 (chkT t).2]], σ) := by
  have u2 := fun a b tok σ => u78 hX [a, b] (by simp) tok σ
  simp only [List.map_cons, List.map_nil] at u2
  have hx := h.xlen
  have ho := h.one; have hs := h.strip; have hf := h.free
  have u81 := u81 hX h
  have key := call1 (X := X) (a := .agg [w]) (v := .tup [.int .i64 (chkT t).1, .int .i64 (chkT t).2]) hX.h17 (by simp [AVal.strip, stripL, AVal.free, freeL, h.strip, h.free]) (by decide) (fun tm hl h0 => ?_) rfl σ
  · exact key
  simp only [AVal.strip, stripL, h.strip] at h0
  replace hl : tm.length = 47 := hl
  unfold Gives
  by_cases c2 : t.length < 2
  · have e : chkT t = (0, 10) := by unfold chkT; rw [if_pos c2]
    have d : ¬ 2 ≤ (t.length : Int) := by omega
    rw [e]
    simp [xf17, hl, h0, hx, ho, hs, hf, u79 hX, u2, firstNZ, d, xresult, xrets, Store.empty, Store.new, Store.put, Store.get, look, putL, setR, Store.only, Store.merge, touch, wrote, upTo, isIn, okRec, hits, capsOf, xcaps, stripL, AVal.strip, freeL, AVal.free, fillR, chunks, mkV, List.filter]
  by_cases c6 : 6 < t.length
  · have e : chkT t = (0, 8) := by unfold chkT; rw [if_neg c2, if_pos c6]
    have d : 2 ≤ (t.length : Int) := by omega
    have d' : ¬ (t.length : Int) ≤ 6 := by omega
    rw [e]
    simp [xf17, hl, h0, hx, ho, hs, hf, u79 hX, u2, firstNZ, d, d', xresult, xrets, Store.empty, Store.new, Store.put, Store.get, look, putL, setR, Store.only, Store.merge, touch, wrote, upTo, isIn, okRec, hits, capsOf, xcaps, stripL, AVal.strip, freeL, AVal.free, fillR, chunks, mkV, List.filter]
  have d : 2 ≤ (t.length : Int) := by omega
  have d' : (t.length : Int) ≤ 6 := by omega
  have e0 : xf17.body = .seq xf17.body.fst (.seq xf17.body.snd.fst (.seq (.seq xf17.body.snd.snd.fst.fst (.block 0 (.loop xf17l0))) (.seq (.seq xf17.body.snd.snd.snd.fst.fst (.block 2 (.rangeF (.t 40) [41, 42] xf17a1 xf17b1))) xf17.body.snd.snd.snd.snd))) := rfl
  rw [e0, seq_left, seq_left, Run_seq, seq_left, Run_seq]
  have kA : Ends (Run X (.code (.seq (.seq xf17.body.fst xf17.body.snd.fst) xf17.body.snd.snd.fst.fst)) tm Store.empty) .normal fun tm' τ => I17 t w 0 tm' τ := by
    simp [xf17, XCode.fst, XCode.snd, I17, hl, h0, hx, ho, hs, hf, u79 hX, u2, firstNZ, d, d', xresult, xrets, Store.empty, Store.new, Store.put, Store.get, look, putL, setR, Store.only, Store.merge, touch, wrote, upTo, isIn, okRec, hits, capsOf, xcaps, stripL, AVal.strip, freeL, AVal.free, fillR, chunks, mkV, List.filter]
  obtain ⟨o1, o2⟩ := out_of kA
  rw [o1, thenC_normal, Run_block]
  generalize outT X _ tm Store.empty = tm1 at *
  generalize outS X _ tm Store.empty = σ1 at *
  obtain ⟨q1, q2⟩ := out_of (loop17 hX h (by omega) (by omega) hp tm1 σ1 o2)
  rw [q1]
  generalize outT X (.loop xf17l0) tm1 σ1 = tm2 at *
  generalize outS X (.loop xf17l0) tm1 σ1 = σ2 at *
  have ef := fstIx_fst (rowErr t) t.length 0
  cases hf' : fstP (fun i => decide (rowErr t i ≠ 0)) t.length 0 with
  | some j =>
    rw [hf'] at ef q2
    obtain ⟨_, _, hj, _⟩ := fstP_some hf'
    have hj : rowErr t j ≠ 0 := of_decide_eq_true hj
    have e : chkT t = (j, rowErr t j) := by unfold chkT; rw [if_neg c2, if_neg c6, ef]; simp [hj]
    rw [e]
    obtain ⟨l, x2, x3, g1, g2⟩ := q2
    simp [exF, xf17, XCode.fst, XCode.snd, l, x2, x3, g1, g2, xresult, xrets, xload, put_next, new_next, Store.get_new, Store.get_put, put_get, setR, only_get, merge_get', only_next, merge_next, upTo_self, upTo_one, merge_only, touch, wrote, isIn, okRec, hits, capsOf, xcaps, stripL, AVal.strip, freeL, AVal.free, fillR, chunks, mkV]
  | none =>
    rw [hf'] at ef q2
    have e := chkT_rows (t := t) (by omega) (by omega) (by rw [ef])
    have ok : TOk t := rowsOk (by omega) (by omega) (by rw [ef])
    rw [e, fstBad_find]
    obtain ⟨l, x1, x2, x3, _, _, _, g0, g1, g2, gn⟩ := q2
    simp only [exF, blockC_exit]
    rw [thenC_normal, Run_seq, Run_seq]
    have kB : Ends (Run X (.code xf17.body.snd.snd.snd.fst.fst) tm2 σ2) .normal fun tm σ => tm.length = 47 ∧ XOpd.eval tm (.t 2) = .ptr 1 0 ∧ XOpd.eval tm (.t 3) = .ptr 2 0 ∧ XOpd.eval tm (.t 40) = .fn 153 [] [.iptr [w] 0] ∧ σ = σ2 := by
      simp [xf17, XCode.fst, XCode.snd, l, x1, x2, x3, g0, u81, ho, put_next, new_next, Store.get_new, Store.get_put, put_get, setR, only_get, merge_get', only_next, merge_next, upTo_self, upTo_one, merge_only, touch, wrote, isIn, okRec, hits, capsOf, xcaps, stripL, AVal.strip, freeL, AVal.free, fillR, chunks, mkV]
    obtain ⟨r1, r2, r3, r4, r5, r6⟩ := out_of kB
    rw [r1]
    generalize outT X xf17.body.snd.snd.snd.fst.fst tm2 σ2 = tm3 at *
    generalize outS X xf17.body.snd.snd.snd.fst.fst tm2 σ2 = σ3 at *
    subst r6
    rw [thenC_normal, Run_block]
    have I := it153 hX h ok (m := 4) (p := fun x => decide (x.2.area ≤ 0))
      (J := fun _ σ => 5 ≤ σ.next ∧ σ.get 1 = some (.cells [.int .i64 0]) ∧ σ.get 2 = some (.cells [.int .i64 0]) ∧ σ.get 4 = some (.oth (.loop .ready tm3 [41, 42] xf17a1 xf17b1)))
      (K := fun x σ => σ.get 1 = some (.cells [.int .i64 x.1]) ∧ σ.get 2 = some (.cells [.int .i64 13]) ∧ ∃ tm, σ.get 4 = some (.oth (.loop (.done .ret) tm [41, 42] xf17a1 xf17b1)))
      (fun x l σ hp hJ => by
        obtain ⟨pre, hpre⟩ := hp
        obtain ⟨j1, j2, j3, j4⟩ := hJ
        exact rnd17 hX r2 r3 r4 (tris_ok ok x (by rw [hpre]; simp)) j1 j2 j3 j4)
      (σ3.new (.oth (.loop .ready tm3 [41, 42] xf17a1 xf17b1)))
      ⟨by show 5 ≤ σ3.next + 1; omega, by rw [Store.get_new, Mem.put_ne _ (by omega), g1], by rw [Store.get_new, Mem.put_ne _ (by omega), g2], by rw [Store.get_new, gn, Mem.put_self]⟩
    have hR : ∀ τ, Run X (.call 153) [.yld 4, .iptr [w] 0] (σ3.new (.oth (.loop .ready tm3 [41, 42] xf17a1 xf17b1))) = some (.ret, [.tup []], τ) → Run X (.code (.rangeF (.t 40) [41, 42] xf17a1 xf17b1)) tm3 σ3 = rangeC (some (.ret, [.tup []], τ)) 4 tm3 := fun τ hτ => by
      rw [Run_rangeF, r5]
      simp only [rangeD, List.nil_append, List.cons_append, gn]
      rw [hτ]
    cases hx' : (tris t).find? (fun x => decide (x.2.area ≤ 0)) with
    | some x =>
      rw [hx'] at I
      obtain ⟨τ, hτ, k1, k2, tm', k3⟩ := I
      have ho : rangeOut τ 4 = some .ret := by unfold rangeOut; rw [k3]
      rw [hR τ hτ, rangeC_some _ _ _ _ _ ho]
      have d1 : (τ.drop 4).get 1 = some (.cells [.int .i64 x.1]) := by rw [drop_get, if_neg (by omega)]; exact k1
      have d2 : (τ.drop 4).get 2 = some (.cells [.int .i64 13]) := by rw [drop_get, if_neg (by omega)]; exact k2
      simp [r2, r3, r4, d1, d2, xf17, xresult, xrets, xload]
    | none =>
      rw [hx'] at I
      obtain ⟨τ, hτ, _, k1, k2, k3⟩ := I
      have ho : rangeOut τ 4 = some .normal := by unfold rangeOut; rw [k3]
      rw [hR τ hτ, rangeC_some _ _ _ _ _ ho]
      have d1 : (τ.drop 4).get 1 = some (.cells [.int .i64 0]) := by rw [drop_get, if_neg (by omega)]; exact k1
      have d2 : (τ.drop 4).get 2 = some (.cells [.int .i64 0]) := by rw [drop_get, if_neg (by omega)]; exact k2
      simp [r2, r3, r4, d1, d2, xf17, XCode.fst, XCode.snd, xresult, xrets, xload, put_next, new_next, Store.get_new, Store.get_put, put_get, setR, only_get, merge_get', only_next, merge_next, upTo_self, upTo_one, merge_only, touch, wrote, isIn, okRec, hits, capsOf, xcaps, stripL, AVal.strip, freeL, AVal.free, fillR, chunks, mkV]
theorem u83 {t : List Rw} {w : AVal} (h : TL t w) (hn : t.length ≤ 1000000) (hp : ∀ r, r ∈ t → r.pts.length ≤ 1000000) (σ : Store) : Run X (.call 83) [.agg [w]] σ = some (.ret, [.int .i64 (chkT t).2], σ) := by
  have u17 := u17 hX h hn hp
  refine call1 (a := .agg [w]) (v := .int .i64 (chkT t).2) hX.h83 (by simp [AVal.strip, stripL, AVal.free, freeL, h.strip, h.free]) (by decide) (fun tm hl h0 => ?_) rfl σ
  simp only [AVal.strip, stripL, h.strip] at h0
  replace hl : tm.length = 11 := hl
  unfold Gives
  simp [xf83, hl, h0, u17, h.one, h.strip, h.free, Store.empty, Store.new, Store.put, Store.get, look, putL, setR, Store.only, Store.merge, touch, wrote, upTo, isIn, okRec, hits, capsOf, xcaps, stripL, AVal.strip, freeL, AVal.free, fillR, chunks, mkV, List.filter]
end
end Go.Proofs.YtffacomibmgecaaGreat.Eng

/-
  MACHINE: areas and bounds.
-/
namespace Go.Proofs.YtffacomibmgecaaGreat.Eng
set_option linter.unusedSimpArgs false
set_option linter.unusedVariables false
def mn (a b : Int) : Int := if b < a then b else a
def mx2 (a b : Int) : Int := if a < b then b else a
/-- Bounds. -/
structure Bd where
  a : Int
  b : Int
  c : Int
  d : Int
  e : Int
  f : Int
def Bd.cells (x : Bd) : List AVal := [.int .i64 x.a, .int .i64 x.b, .int .i64 x.c, .int .i64 x.d, .int .i64 x.e, .int .i64 x.f]
def bd0 (p : Pt) : Bd := ⟨p.h, p.h, p.f, p.f, p.p, p.p⟩
def bd1 (x : Bd) (p : Pt) : Bd := ⟨mn x.a p.h, mx2 x.b p.h, mn x.c p.f, mx2 x.d p.f, mn x.e p.p, mx2 x.f p.p⟩
def bdP (l : List Pt) (x : Bd) : Nat → Bd
  | 0 => x
  | n + 1 => bd1 (bdP l x n) (pat l n)
def bdR (t : List Rw) (x : Bd) : Nat → Bd
  | 0 => x
  | n + 1 => bdP (nth t n).pts (bdR t x n) (nth t n).pts.length
def bnds (t : List Rw) : Bd := bdR t (bd0 (pat (nth t 0).pts 0)) t.length
section
variable {X : FuncId → Option XFunc} (hX : MtACode X)
include hX
theorem rnd19 {tmR : List AVal} (hl : tmR.length = 22) (h5 : XOpd.eval tmR (.t 5) = .ptr 1 0) {x : Nat × Tri} (k : TriOk x.2) {s : Int} (hs : IntKind.i64.wrap (s + x.2.area) = s + x.2.area) {σ : Store} (nx : 3 ≤ σ.next) (g1 : σ.get 1 = some (.cells [.int .i64 s])) (g2 : σ.get 2 = some (.oth (.loop .ready tmR [15, 16] xf19a0 xf19b0))) :
    ∃ σ', Run X (.round 2) [.int .i64 x.1, x.2.enc] σ = some (.ret, [.bool true], σ') ∧ 3 ≤ σ'.next ∧ σ'.get 1 = some (.cells [.int .i64 (s + x.2.area)]) ∧ σ'.get 2 = some (.oth (.loop .ready tmR [15, 16] xf19a0 xf19b0)) := by
  obtain ⟨N, hN⟩ : ∃ N, σ.next = N + 3 := ⟨σ.next - 3, by omega⟩
  have u := u82 hX (area_ok k.1 k.2.1 k.2.2)
  have hin : roundIn σ 2 [.int .i64 x.1, x.2.enc] = some ((tmR.set 15 (.int .i64 x.1)).set 16 x.2.enc, xf19a0, xf19b0) := by
    unfold roundIn
    rw [g2]; rfl
  have eA : Ends (Run X (.code xf19a0) ((tmR.set 15 (.int .i64 x.1)).set 16 x.2.enc) σ) .normal fun tm σ1 => tm.length = 22 ∧ XOpd.eval tm (.t 5) = .ptr 1 0 ∧ XOpd.eval tm (.t 7) = .ptr (N + 3) 0 ∧ σ1.next = N + 4 ∧ σ1.get 1 = σ.get 1 ∧ σ1.get 2 = σ.get 2 ∧ σ1.get (N + 3) = some (.cells x.2.enc.cells) := by
    have e1 : (tmR.set 15 (.int .i64 x.1)).set 16 x.2.enc = putT (putT tmR (some 15) (.int .i64 x.1)) (some 16) x.2.enc := rfl
    rw [e1]
    simp [xf19a0, Tri.enc, hl, h5, hN, AVal.cells, put_next, new_next, Store.get_new, Store.get_put, put_get, setR, only_get, merge_get', only_next, merge_next, upTo_self, upTo_one, merge_only, touch, wrote, isIn, okRec, hits, capsOf, xcaps, stripL, AVal.strip, freeL, AVal.free, fillR, chunks, mkV]
  obtain ⟨o1, o2, o3, o4, o5, o6, o7, o8⟩ := out_of eA
  generalize outT X xf19a0 _ σ = tm1 at *
  generalize outS X xf19a0 _ σ = σ1 at *
  have hmid : roundMid σ1 2 = some (σ1.put 2 (.oth (.loop .busy tmR [15, 16] xf19a0 xf19b0))) := by
    unfold roundMid
    rw [o7, g2]
  simp only [Tri.enc, AVal.cells] at o8
  have eB : Ends (Run X (.code xf19b0) tm1 (σ1.put 2 (.oth (.loop .busy tmR [15, 16] xf19a0 xf19b0)))) .normal fun _ σ3 => σ3.next = N + 4 ∧ σ3.get 1 = some (.cells [.int .i64 (s + x.2.area)]) ∧ σ3.get 2 = some (.oth (.loop .busy tmR [15, 16] xf19a0 xf19b0)) := by
    rw [g1] at o6
    generalize (NObj.oth (.loop .busy tmR [15, 16] xf19a0 xf19b0)) = ob
    simp [xf19b0, o2, o3, o4, o5, o6, o7, o8, u, hs, put_next, new_next, Store.get_new, Store.get_put, put_get, setR, only_get, merge_get', only_next, merge_next, upTo_self, upTo_one, merge_only, touch, wrote, isIn, okRec, hits, capsOf, xcaps, stripL, AVal.strip, freeL, AVal.free, fillR, chunks, mkV]
  obtain ⟨p1, p2, p3, p4⟩ := out_of eB
  generalize outT X xf19b0 _ _ = tm3 at *
  generalize outS X xf19b0 _ _ = σ3 at *
  have hout : roundOut σ3 2 .normal = some (σ3.put 2 (.oth (.loop .ready tmR [15, 16] xf19a0 xf19b0))) := by
    unfold roundOut
    rw [p4]; rfl
  exact ⟨σ3.put 2 (.oth (.loop .ready tmR [15, 16] xf19a0 xf19b0)), by rw [Run_round hin o1 hmid p1 hout]; rfl, by show 3 ≤ σ3.next; omega, by rw [Store.get_put, Mem.put_ne _ (by decide), p3], by rw [Store.get_put, Mem.put_self]⟩
theorem u19 {t : List Rw} {w : AVal} (h : TL t w) (hn : t.length ≤ 1000000) (hp : ∀ r, r ∈ t → r.pts.length ≤ 1000000) (σ : Store) : Run X (.call 19) [.agg [w]] σ = some (.ret, [.tup [.int .i64 (if (chkT t).2 = 0 then areaS (tris t) else 0), .int .i64 (chkT t).2]], σ) := by
  have hx := h.xlen
  have ho := h.one; have hs := h.strip; have hf := h.free
  have u81 := u81 hX h
  have u83 := u83 hX h hn hp
  have key := call1 (X := X) (a := .agg [w]) (v := .tup [.int .i64 (if (chkT t).2 = 0 then areaS (tris t) else 0), .int .i64 (chkT t).2]) hX.h19 (by simp [AVal.strip, stripL, AVal.free, freeL, h.strip, h.free]) (by decide) (fun tm hl h0 => ?_) rfl σ
  · exact key
  simp only [AVal.strip, stripL, h.strip] at h0
  replace hl : tm.length = 22 := hl
  unfold Gives
  by_cases c : (chkT t).2 = 0
  case neg =>
    simp [xf19, hl, h0, u83, c, ho, hs, hf, xresult, xrets, Store.empty, Store.new, Store.put, Store.get, look, putL, setR, Store.only, Store.merge, touch, wrote, upTo, isIn, okRec, hits, capsOf, xcaps, stripL, AVal.strip, freeL, AVal.free, fillR, chunks, mkV, List.filter]
    done
  have ok := chk_ok c
  rw [if_pos c, c]
  have e0 : xf19.body = .seq xf19.body.fst (.seq xf19.body.snd.fst (.seq xf19.body.snd.snd.fst (.seq (.seq xf19.body.snd.snd.snd.fst.fst (.block 0 (.rangeF (.t 14) [15, 16] xf19a0 xf19b0))) xf19.body.snd.snd.snd.snd))) := rfl
  rw [e0, seq_left, seq_left, seq_left, Run_seq, seq_left, Run_seq]
  have kB : Ends (Run X (.code (.seq (.seq (.seq xf19.body.fst xf19.body.snd.fst) xf19.body.snd.snd.fst) xf19.body.snd.snd.snd.fst.fst)) tm Store.empty) .normal fun tm σ => tm.length = 22 ∧ XOpd.eval tm (.t 5) = .ptr 1 0 ∧ XOpd.eval tm (.t 14) = .fn 153 [] [.iptr [w] 0] ∧ σ.get 1 = some (.cells [.int .i64 0]) ∧ σ.next = 2 := by
    simp [xf19, XCode.fst, XCode.snd, hl, h0, u83, u81, c, ho, hs, hf, Store.empty, Store.new, Store.put, Store.get, look, putL, setR, Store.only, Store.merge, touch, wrote, upTo, isIn, okRec, hits, capsOf, xcaps, stripL, AVal.strip, freeL, AVal.free, fillR, chunks, mkV, List.filter]
  obtain ⟨r1, r2, r3, r4, r5, r6⟩ := out_of kB
  rw [r1]
  generalize outT X _ tm Store.empty = tm3 at *
  generalize outS X _ tm Store.empty = σ3 at *
  rw [thenC_normal, Run_block]
  have I := it153 hX h ok (m := 2) (p := fun _ => false)
    (J := fun l σ => 3 ≤ σ.next ∧ (∃ pre, tris t = pre ++ l ∧ σ.get 1 = some (.cells [.int .i64 (areaS pre)])) ∧ σ.get 2 = some (.oth (.loop .ready tm3 [15, 16] xf19a0 xf19b0)))
    (K := fun x σ => False)
    (fun x l σ hp hJ => by
      obtain ⟨j1, ⟨pre, hpre, j2⟩, j3⟩ := hJ
      have hall := tris_ok ok
      have hlen := tris_len ok
      have e2 : areaS (pre ++ [x]) = areaS pre + x.2.area := by simp [areaS]
      have bd := areaS_bd (l := pre ++ [x]) (fun y hy => hall y (by rw [hpre]; simp at hy ⊢; rcases hy with h | h <;> simp [h]))
      rw [hpre] at hlen
      simp at hlen
      have hw : IntKind.i64.wrap (areaS pre + x.2.area) = areaS pre + x.2.area := by
        rw [← e2]
        simp only [List.length_append, List.length_cons, List.length_nil] at bd
        rw [wrap_i64] <;> omega
      obtain ⟨σ', k1, k2, k3, k4⟩ := rnd19 hX r2 r3 (hall x (by rw [hpre]; simp)) hw j1 j2 j3
      exact ⟨σ', k1, fun _ => ⟨k2, ⟨pre ++ [x], by rw [hpre]; simp, by rw [e2]; exact k3⟩, k4⟩, fun h => by simp at h⟩)
    (σ3.new (.oth (.loop .ready tm3 [15, 16] xf19a0 xf19b0)))
    ⟨by show 3 ≤ σ3.next + 1; omega, ⟨[], rfl, by rw [Store.get_new, Mem.put_ne _ (by omega), r5]; rfl⟩, by rw [Store.get_new, r6, Mem.put_self]⟩
  have hno : (tris t).find? (fun _ => false) = none := by simp
  rw [hno] at I
  obtain ⟨τ, hτ, _, ⟨pre, hpre, k1⟩, k3⟩ := I
  rw [List.append_nil] at hpre
  rw [← hpre] at k1
  have hR : Run X (.code (.rangeF (.t 14) [15, 16] xf19a0 xf19b0)) tm3 σ3 = rangeC (some (.ret, [.tup []], τ)) 2 tm3 := by
    rw [Run_rangeF, r4]
    simp only [rangeD, List.nil_append, List.cons_append, r6]
    rw [hτ]
  have ho : rangeOut τ 2 = some .normal := by unfold rangeOut; rw [k3]
  rw [hR, rangeC_some _ _ _ _ _ ho]
  have d1 : (τ.drop 2).get 1 = some (.cells [.int .i64 (areaS (tris t))]) := by rw [drop_get, if_neg (by omega)]; exact k1
  simp [r2, r3, d1, xf19, XCode.fst, XCode.snd, xresult, xrets, xload, put_next, new_next, Store.get_new, Store.get_put, put_get, setR, only_get, merge_get', only_next, merge_next, upTo_self, upTo_one, merge_only, touch, wrote, isIn, okRec, hits, capsOf, xcaps, stripL, AVal.strip, freeL, AVal.free, fillR, chunks, mkV]
/-! Bounds. -/
omit hX in
def I20a (w v : AVal) (t : List Rw) (l : List Pt) (j : Nat) (x : Bd) (i : Nat) (tm : List AVal) (σ : Store) : Prop := tm.length = 77 ∧ XOpd.eval tm (.t 2) = .ptr 1 0 ∧ XOpd.eval tm (.t 5) = .ptr 2 0 ∧ XOpd.eval tm (.t 39) = w ∧ XOpd.eval tm (.t 40) = .int .i64 t.length ∧ XOpd.eval tm (.t 41) = .int .i64 j ∧ XOpd.eval tm (.t 46) = v ∧ XOpd.eval tm (.t 47) = .int .i64 l.length ∧ XOpd.eval tm (.t 48) = .int .i64 i ∧ σ.get 1 = some (.cells [.int .i64 0, .int .i64 0, .int .i64 0, .int .i64 0, .int .i64 0, .int .i64 0]) ∧ σ.get 2 = some (.cells (bdP l x i).cells) ∧ 3 ≤ σ.next
set_option maxHeartbeats 1000000 in
theorem loop20a {w v : AVal} {t : List Rw} {l : List Pt} (hv : PL l v) (hn : l.length ≤ 1000000) (j : Nat) (x : Bd) (tm : List AVal) (σ : Store) (hI : I20a w v t l j x 0 tm σ) :
    Ends (Run X (.code (.loop xf20l2)) tm σ) (.exit 4) fun tm σ => I20a w v t l j x l.length tm σ := by
  refine loop_all l.length (I20a w v t l j x) (by simp) (fun i tm σ hi h => ?_) (fun tm σ h => ?_) tm σ hI
  · obtain ⟨hl, h2, h5, h39, h40, h41, h46, h47, h48, g1, g2, nx⟩ := h
    obtain ⟨N, hN⟩ : ∃ N, σ.next = N + 3 := ⟨σ.next - 3, by omega⟩
    have q := pat_at hi
    have u := u84 hX (pat l i)
    have hw : IntKind.i64.wrap ((i : Int) + 1) = ((i + 1 : Nat) : Int) := by rw [wrap_i64] <;> omega
    have e : bdP l x (i + 1) = bd1 (bdP l x i) (pat l i) := rfl
    rw [hv.list (by omega)] at h46 ⊢
    unfold I20a
    rw [e]
    generalize bdP l x i = b at *
    generalize pat l i = p at *
    simp only [Bd.cells] at g2
    simp [xf20l2, xf20l1, Run_loop, hl, h2, h5, h39, h40, h41, h46, h47, h48, g1, g2, hN, hi, q, u, hw, bd1, Bd.cells, mn, mx2, ix1, ix2, wr1, wr2, wr3, AVal.cells, put_next, new_next, Store.get_new, Store.get_put, put_get, setR, only_get, merge_get', only_next, merge_next, upTo_self, upTo_one, merge_only, touch, wrote, isIn, okRec, hits, capsOf, xcaps, stripL, AVal.strip, freeL, AVal.free, fillR, chunks, mkV]
  · unfold I20a at h ⊢
    generalize bdP l x l.length = b at *
    obtain ⟨hl, h2, h5, h39, h40, h41, h46, h47, h48, g1, g2, nx⟩ := h
    simp [xf20l2, hl, h2, h5, h39, h40, h41, h46, h47, h48, g1, g2, nx]
end
end Go.Proofs.YtffacomibmgecaaGreat.Eng

/-
  MACHINE: bounds; copies.
-/
namespace Go.Proofs.YtffacomibmgecaaGreat.Eng
set_option linter.unusedSimpArgs false
set_option linter.unusedVariables false
def bdz : Bd := ⟨0, 0, 0, 0, 0, 0⟩
theorem app1_list {σ : Store} {e s b j : Nat} {ys cs : List AVal} {tk : Option Nat} (hs : s ≠ 1) (hs0 : 0 < s) (ho : ∀ c, c ∈ cs → c.one = true) (hb : b ≤ 1000) (hl : ys.length ≤ 1000000) (hj : σ.get j = some (.tok e s ys.length)) :
    xappend σ e s b (.list s ys (some j)) (.list s [.agg cs] tk) = some (.list s (ys ++ [.agg cs]) (some j), σ.put j (.tok e s (ys.length + 1))) := by
  have o : ones [.agg cs] = true := by simp [ones, AVal.cells]; exact ho
  have h1 : (ys.length + 1) * b ≤ 1000000000000 := Nat.le_trans (Nat.mul_le_mul (by omega : ys.length + 1 ≤ 1000001) hb) (by decide)
  have h2 : ys.length ≤ 999999999999 := by omega
  simp [xappend, o, hs0, h1, h2, hj]
theorem app1_nils {σ : Store} {e s b : Nat} {cs : List AVal} {tk : Option Nat} (hs0 : 0 < s) (ho : ∀ c, c ∈ cs → c.one = true) (hb : b ≤ 1000) :
    xappend σ e s b .nils (.list s [.agg cs] tk) = some (.list s [.agg cs] (some σ.next), σ.new (.tok e s 1)) := by
  have o : ones [.agg cs] = true := by simp [ones, AVal.cells]; exact ho
  have h1 : b ≤ 1000000000000 := by omega
  simp [xappend, o, hs0, h1]
theorem appc_nil {σ : Store} {N : Nat} {v : AVal} (hv : PL [] v) : xappend σ 148 3 24 (.list 3 [] (some N)) v = some (.list 3 [] (some N), σ) := by
  rcases hv with ⟨rfl, _⟩ | rfl
  · simp [xappend, AVal.isSlice]
  · simp [xappend, AVal.isSlice, encs, ones]
theorem appc_cons {σ : Store} {N : Nat} {v : AVal} {l : List Pt} (hv : PL l v) (h0 : l ≠ []) (hn : l.length ≤ 1000000) (hj : σ.get N = some (.tok 148 3 0)) : xappend σ 148 3 24 (.list 3 [] (some N)) v = some (.list 3 (encs l) (some N), σ.put N (.tok 148 3 l.length)) := by
  have e := hv.list (List.length_pos_iff.2 h0)
  subst e
  match l, h0 with
  | p :: l, _ =>
    have o : ones (encs (p :: l)) = true := by
      simp only [ones, encs, List.all_eq_true]
      intro x hx
      obtain ⟨y, _, rfl⟩ := List.mem_map.1 hx
      simp [Pt.enc, AVal.cells]
    simp only [List.length_cons] at hn
    have h1 : (l.length + 1) * 24 ≤ 1000000000000 := by omega
    have h2 : l.length ≤ 999999999999 := by omega
    simp only [encs, List.map_cons] at o ⊢
    simp [xappend, o, hj, h1, h2]
section
variable {X : FuncId → Option XFunc} (hX : MtACode X)
include hX
omit hX in
def I20c (w : AVal) (t : List Rw) (x : Bd) (j : Nat) (tm : List AVal) (σ : Store) : Prop := tm.length = 77 ∧ XOpd.eval tm (.t 2) = .ptr 1 0 ∧ XOpd.eval tm (.t 5) = .ptr 2 0 ∧ XOpd.eval tm (.t 39) = w ∧ XOpd.eval tm (.t 40) = .int .i64 t.length ∧ XOpd.eval tm (.t 41) = .int .i64 j ∧ σ.get 1 = some (.cells [.int .i64 0, .int .i64 0, .int .i64 0, .int .i64 0, .int .i64 0, .int .i64 0]) ∧ σ.get 2 = some (.cells (bdR t x j).cells) ∧ 3 ≤ σ.next
set_option maxHeartbeats 1000000 in
theorem loop20c {w : AVal} {t : List Rw} (hT : TL t w) (hn : t.length ≤ 1000000) (hp : ∀ i, i < t.length → (nth t i).pts.length ≤ 1000000) (x : Bd) (tm : List AVal) (σ : Store) (hI : I20c w t x 0 tm σ) :
    Ends (Run X (.code (.loop xf20l3)) tm σ) (.exit 2) fun tm σ => I20c w t x t.length tm σ := by
  refine loop_all t.length (I20c w t x) (by simp) (fun i tm σ hi h => ?_) (fun tm σ h => ?_) tm σ hI
  · obtain ⟨hl, h2, h5, h39, h40, h41, g1, g2, nx⟩ := h
    obtain ⟨N, hN⟩ : ∃ N, σ.next = N + 3 := ⟨σ.next - 3, by omega⟩
    obtain ⟨q, hv⟩ := nth_at hT hi
    have hx := hv.xlen
    have hw : IntKind.i64.wrap ((i : Int) + 1) = ((i + 1 : Nat) : Int) := by rw [wrap_i64] <;> omega
    have hI := fun tm σ a0 a1 a2 a3 a4 a5 a6 a7 a8 a9 a10 a11 => out_of (loop20a hX (w := w) (v := (nth t i).v) (t := t) hv (hp i hi) i (bdR t x i) tm σ ⟨a0, a1, a2, a3, a4, a5, a6, a7, a8, a9, a10, a11⟩)
    have e : bdR t x (i + 1) = bdP (nth t i).pts (bdR t x i) (nth t i).pts.length := rfl
    have c0 : ((0 : Nat) : Int) = 0 := rfl
    have eb : bdP (nth t i).pts (bdR t x i) 0 = bdR t x i := rfl
    simp only [I20a, c0, eb] at hI
    unfold I20c
    rw [e]
    generalize bdP (nth t i).pts (bdR t x i) (nth t i).pts.length = b' at *
    generalize bdR t x i = b at *
    rw [hT.list (by omega)] at h39 hI ⊢
    have o1 := hv.one; have s1 := hv.strip; have f1 := hv.free
    generalize nth t i = r at *
    simp (maxDischargeDepth := 24) [xf20l3, hl, h2, h5, h39, h40, h41, g1, g2, hN, hi, q, hx, hI, hw, o1, s1, f1, AVal.cells, put_next, new_next, Store.get_new, Store.get_put, put_get, setR, only_get, merge_get', only_next, merge_next, upTo_self, upTo_one, merge_only, touch, wrote, isIn, okRec, hits, capsOf, xcaps, stripL, AVal.strip, freeL, AVal.free, fillR, chunks, mkV]
  · unfold I20c at h ⊢
    generalize bdR t x t.length = b at *
    obtain ⟨hl, h2, h5, h39, h40, h41, g1, g2, nx⟩ := h
    simp [xf20l3, hl, h2, h5, h39, h40, h41, g1, g2, nx]
set_option maxHeartbeats 1000000 in
theorem u20 {t : List Rw} {w : AVal} (h : TL t w) (hn : t.length ≤ 1000000) (hp : ∀ r, r ∈ t → r.pts.length ≤ 1000000) (σ : Store) : Run X (.call 20) [.agg [w]] σ = some (.ret, [.tup [.agg (if (chkT t).2 = 0 then bnds t else bdz).cells, .int .i64 (chkT t).2]], σ) := by
  have hx := h.xlen
  have ho := h.one; have hs := h.strip; have hf := h.free
  have u83 := u83 hX h hn hp
  have key := call1 (X := X) (a := .agg [w]) (v := .tup [.agg (if (chkT t).2 = 0 then bnds t else bdz).cells, .int .i64 (chkT t).2]) hX.h20 (by simp [AVal.strip, stripL, AVal.free, freeL, h.strip, h.free]) (by decide) (fun tm hl h0 => ?_) rfl σ
  · exact key
  simp only [AVal.strip, stripL, h.strip] at h0
  replace hl : tm.length = 77 := hl
  unfold Gives
  by_cases c : (chkT t).2 = 0
  case neg =>
    simp [xf20, hl, h0, u83, c, ho, hs, hf, bdz, Bd.cells, xresult, xrets, xload, Store.empty, Store.new, Store.put, Store.get, look, putL, setR, Store.only, Store.merge, touch, wrote, upTo, isIn, okRec, hits, capsOf, xcaps, stripL, AVal.strip, freeL, AVal.free, fillR, chunks, mkV, List.filter]
    done
  have ok := chk_ok c
  have t2 := ok.two; have p2 := ok.p2
  rw [if_pos c, c]
  have wl := h.list (by omega)
  obtain ⟨q, hv⟩ := nth_at h (i := 0) (by omega)
  have vl := hv.list (by omega)
  have qk := pat_at (l := (nth t 0).pts) (i := 0) (by omega)
  have u84 := u84 hX (pat (nth t 0).pts 0)
  rw [Run_cut 4]
  have e1 : XCode.cutB 4 xf20.body = .block 2 (.loop xf20l3) := rfl
  rw [e1]
  have kA : Ends (Run X (.code (XCode.cutP 4 xf20.body)) tm Store.empty) .normal fun tm σ => I20c w t (bd0 (pat (nth t 0).pts 0)) 0 tm σ := by
    have eb : bdR t (bd0 (pat (nth t 0).pts 0)) 0 = bd0 (pat (nth t 0).pts 0) := rfl
    have sr : stripL (rws t) = rws t := freeL_strip (rws_free h.r)
    have fr : freeL (rws t) = true := rws_free h.r
    unfold I20c
    rw [eb]
    generalize pat (nth t 0).pts 0 = p at *
    rw [vl] at q
    rw [wl] at h0 u83 hx ⊢
    simp [xf20, xf20l0, Run_loop, XCode.cutP, hl, h0, u83, c, hx, q, qk, u84, bd0, Bd.cells, sr, fr, ix1, ix2, wr1, wr2, wr3, xload, encs_strip, encs_free, AVal.cells, Store.empty, Store.new, Store.put, Store.get, look, putL, setR, Store.only, Store.merge, touch, wrote, upTo, isIn, okRec, hits, capsOf, xcaps, stripL, AVal.strip, freeL, AVal.free, fillR, chunks, mkV, List.filter]
  obtain ⟨o1, o2⟩ := out_of kA
  rw [o1, thenC_normal, Run_block]
  generalize outT X _ tm Store.empty = tm1 at *
  generalize outS X _ tm Store.empty = σ1 at *
  have pm : ∀ i, i < t.length → (nth t i).pts.length ≤ 1000000 := fun i hi => hp _ (by unfold nth; rw [List.getD_eq_getElem?_getD, List.getElem?_eq_getElem hi]; exact List.getElem_mem hi)
  obtain ⟨q1, q2⟩ := out_of (loop20c hX h hn pm _ tm1 σ1 o2)
  rw [q1]
  generalize outT X (.loop xf20l3) tm1 σ1 = tm2 at *
  generalize outS X (.loop xf20l3) tm1 σ1 = σ2 at *
  have eb : bnds t = bdR t (bd0 (pat (nth t 0).pts 0)) t.length := rfl
  rw [eb]
  unfold I20c at q2
  generalize bdR t (bd0 (pat (nth t 0).pts 0)) t.length = b at *
  obtain ⟨l, x2, x5, _, _, _, g1, g2, _⟩ := q2
  simp only [Bd.cells] at g2
  simp [xf20, XCode.cutR, l, x2, x5, g1, g2, Bd.cells, xresult, xrets, xload, put_next, new_next, Store.get_new, Store.get_put, put_get, setR, only_get, merge_get', only_next, merge_next, upTo_self, upTo_one, merge_only, touch, wrote, isIn, okRec, hits, capsOf, xcaps, stripL, AVal.strip, freeL, AVal.free, fillR, chunks, mkV]
omit hX in
def I75 (t : List Rw) (w : AVal) (i : Nat) (tm : List AVal) (σ : Store) : Prop := tm.length = 28 ∧ XOpd.eval tm (.t 0) = w ∧ XOpd.eval tm (.t 4) = .int .i64 i ∧ ∃ ys, OutG 136 2 σ 0 ys (XOpd.eval tm (.t 3)) ∧ stripL ys = rws ((t.take i).map Rw.cp) ∧ ys.length = i
omit hX in
theorem stripL_append : ∀ (a b : List AVal), stripL (a ++ b) = stripL a ++ stripL b
  | [], b => rfl
  | x :: a, b => by simp [stripL, stripL_append a b]
omit hX in
set_option maxHeartbeats 2000000 in
theorem loop75 {t : List Rw} {w : AVal} (hT : TL t w) (hn : t.length ≤ 1000000) (hp : ∀ i, i < t.length → (nth t i).pts.length ≤ 1000000) (tm : List AVal) (σ : Store) (hI : I75 t w 0 tm σ) :
    Ends (Run X (.code (.loop xf75l0)) tm σ) (.exit 0) fun tm σ => I75 t w t.length tm σ := by
  refine loop_all t.length (I75 t w) (by simp) (fun i tm σ hi h => ?_) (fun tm σ h => ?_) tm σ hI
  · obtain ⟨hl, h0, h4, ys, hO, hs, hlen⟩ := h
    obtain ⟨q, hv⟩ := nth_at hT hi
    have hx := hT.xlen
    have hw : IntKind.i64.wrap ((i : Int) + 1) = ((i + 1 : Nat) : Int) := by rw [wrap_i64] <;> omega
    have o1 := hv.one
    have hpi := hp i hi
    have wl := hT.list (by omega)
    have htk : rws ((t.take (i + 1)).map Rw.cp) = rws ((t.take i).map Rw.cp) ++ [.agg [.int .i64 (nth t i).op, .list 3 (encs (nth t i).pts) none]] := by
      have e : t[i]? = some (nth t i) := by unfold nth; rw [List.getD_eq_getElem?_getD, List.getElem?_eq_getElem hi]; rfl
      rw [List.take_add_one, e]
      simp [rws, Rw.cp, Rw.enc]
    generalize hr : nth t i = r at *
    generalize hN : σ.next = N at *
    have fin : ∀ (tm' : List AVal) (σ' : Store) (j : Nat), tm'.length = 28 → XOpd.eval tm' (.t 0) = w → XOpd.eval tm' (.t 4) = .int .i64 ((i + 1 : Nat) : Int) → j < σ'.next → XOpd.eval tm' (.t 3) = .list 2 (ys ++ [.agg [.int .i64 r.op, .list 3 (encs r.pts) (some N)]]) (some j) → σ'.get j = some (.tok 136 2 (ys.length + 1)) → I75 t w (i + 1) tm' σ' := by
      intro tm' σ' j a1 a2 a3 a4 a5 a6
      refine ⟨a1, a2, a3, ys ++ [.agg [.int .i64 r.op, .list 3 (encs r.pts) (some N)]], .inr ⟨j, by omega, a4, a5, by rw [a6]; simp, by simp⟩, ?_, by simp [hlen]⟩
      rw [stripL_append, hs, htk]
      simp [stripL, AVal.strip, encs_strip]
    rcases hO with ⟨h3, hy⟩ | ⟨j, j1, j2, h3, j3, j4⟩
    · subst hy
      have key : Ends (Run X (.code xf75l0) tm σ) .normal fun tm' σ' => tm'.length = 28 ∧ XOpd.eval tm' (.t 0) = w ∧ XOpd.eval tm' (.t 4) = .int .i64 ((i + 1 : Nat) : Int) ∧ N + 2 < σ'.next ∧ XOpd.eval tm' (.t 3) = .list 2 [.agg [.int .i64 r.op, .list 3 (encs r.pts) (some N)]] (some (N + 2)) ∧ σ'.get (N + 2) = some (.tok 136 2 1) := by
        have B := fun σ a b tk => app1_nils (σ := σ) (e := 136) (s := 2) (b := 32) (cs := [.int .i64 a, .list 3 b (some N)]) (tk := tk) (by decide) (by simp) (by decide)
        rw [wl] at h0 hx ⊢
        by_cases hl0 : r.pts = []
        · rw [hl0] at hv ⊢
          have A := fun σ => appc_nil (σ := σ) (N := N) hv
          have e0 : encs [] = [] := rfl
          simp [xf75l0, hl, h0, h3, h4, hi, hx, q, hN, A, B, hw, o1, e0, AVal.cells, put_next, new_next, Store.get_new, Store.get_put, put_get, setR, only_get, merge_get', only_next, merge_next, upTo_self, upTo_one, merge_only, touch, wrote, isIn, okRec, hits, capsOf, xcaps, stripL, AVal.strip, freeL, AVal.free, fillR, chunks, mkV]
        · have A := fun σ h => appc_cons (σ := σ) (N := N) hv hl0 hpi h
          simp [xf75l0, hl, h0, h3, h4, hi, hx, q, hN, A, B, hw, o1, AVal.cells, put_next, new_next, Store.get_new, Store.get_put, put_get, setR, only_get, merge_get', only_next, merge_next, upTo_self, upTo_one, merge_only, touch, wrote, isIn, okRec, hits, capsOf, xcaps, stripL, AVal.strip, freeL, AVal.free, fillR, chunks, mkV]
      obtain ⟨tm', σ', e, a1, a2, a3, a4, a5, a6⟩ := key
      exact ⟨tm', σ', e, fin tm' σ' (N + 2) a1 a2 a3 a4 a5 a6⟩
    · have key : Ends (Run X (.code xf75l0) tm σ) .normal fun tm' σ' => tm'.length = 28 ∧ XOpd.eval tm' (.t 0) = w ∧ XOpd.eval tm' (.t 4) = .int .i64 ((i + 1 : Nat) : Int) ∧ j < σ'.next ∧ XOpd.eval tm' (.t 3) = .list 2 (ys ++ [.agg [.int .i64 r.op, .list 3 (encs r.pts) (some N)]]) (some j) ∧ σ'.get j = some (.tok 136 2 (ys.length + 1)) := by
        have B := fun σ a b tk h => app1_list (σ := σ) (e := 136) (s := 2) (b := 32) (j := j) (ys := ys) (cs := [.int .i64 a, .list 3 b (some N)]) (tk := tk) (by decide) (by decide) (by simp) (by decide) (by omega) h
        have k1 : ¬ j = N := by omega
        have k2 : ¬ N = j := by omega
        have k3 : ¬ j = N + 1 := by omega
        have k4 : ¬ N + 1 = j := by omega
        have k5 : j < N + 2 := by omega
        rw [wl] at h0 hx ⊢
        by_cases hl0 : r.pts = []
        · rw [hl0] at hv ⊢
          have A := fun σ => appc_nil (σ := σ) (N := N) hv
          have e0 : encs [] = [] := rfl
          simp [xf75l0, hl, h0, h3, h4, hi, hx, q, hN, j3, A, B, hw, o1, e0, k1, k2, k3, k4, k5, AVal.cells, put_next, new_next, Store.get_new, Store.get_put, put_get, setR, only_get, merge_get', only_next, merge_next, upTo_self, upTo_one, merge_only, touch, wrote, isIn, okRec, hits, capsOf, xcaps, stripL, AVal.strip, freeL, AVal.free, fillR, chunks, mkV]
        · have A := fun σ h => appc_cons (σ := σ) (N := N) hv hl0 hpi h
          simp [xf75l0, hl, h0, h3, h4, hi, hx, q, hN, j3, A, B, hw, o1, k1, k2, k3, k4, k5, AVal.cells, put_next, new_next, Store.get_new, Store.get_put, put_get, setR, only_get, merge_get', only_next, merge_next, upTo_self, upTo_one, merge_only, touch, wrote, isIn, okRec, hits, capsOf, xcaps, stripL, AVal.strip, freeL, AVal.free, fillR, chunks, mkV]
      obtain ⟨tm', σ', e, a1, a2, a3, a4, a5, a6⟩ := key
      exact ⟨tm', σ', e, fin tm' σ' j a1 a2 a3 a4 a5 a6⟩
  · have hx := hT.xlen
    obtain ⟨hl, h0, h4, ys, hO, hs, hlen⟩ := h
    have key : Ends (Run X (.code xf75l0) tm σ) (.exit 0) fun tm' σ' => tm'.length = 28 ∧ XOpd.eval tm' (.t 0) = w ∧ XOpd.eval tm' (.t 4) = .int .i64 t.length ∧ XOpd.eval tm' (.t 3) = XOpd.eval tm (.t 3) ∧ σ' = σ := by
      simp [xf75l0, hl, h0, h4, hx]
    obtain ⟨tm', σ', e, a1, a2, a3, a4, a5⟩ := key
    exact ⟨tm', σ', e, a1, a2, a3, ys, by rw [a4, a5]; exact hO, hs, hlen⟩
end
end Go.Proofs.YtffacomibmgecaaGreat.Eng

/-
  MACHINE: the reference's rows and triangles.
-/
namespace Go.Proofs.YtffacomibmgecaaGreat.Eng
set_option linter.unusedSimpArgs false
set_option linter.unusedVariables false
def Tri.ref (x : Tri) : AVal := .agg [.int .i64 x.a.h, .int .i64 x.a.f, .int .i64 x.a.p, .int .i64 x.b.h, .int .i64 x.b.f, .int .i64 x.b.p, .int .i64 x.c.h, .int .i64 x.c.f, .int .i64 x.c.p, .int .i64 x.oa, .int .i64 x.ob, .int .i64 x.oc]
def refs (l : List Tri) : List AVal := l.map Tri.ref
theorem refs_free (l : List Tri) : freeL (refs l) = true := by rw [freeL_all]; intro x hx; obtain ⟨s, _, rfl⟩ := List.mem_map.1 hx; rfl
theorem refs_strip (l : List Tri) : stripL (refs l) = refs l := freeL_strip (refs_free l)
theorem refs_append (a b : List Tri) : refs (a ++ b) = refs a ++ refs b := by simp [refs]
theorem trisB_snoc (a b : Rw) : ∀ n i, trisB a b (n + 1) i = trisB a b n i ++ [tri1 a b (i + n), tri2 a b (i + n)]
  | 0, i => rfl
  | n + 1, i => by
    rw [trisB, trisB_snoc a b n (i + 1), trisB]
    simp only [List.cons_append, show i + 1 + n = i + (n + 1) by omega]
theorem OutG.strip' {e s : Nat} {σ : Store} {m0 : Nat} {ys : List AVal} {v : AVal} (hf : freeL ys = true) (h : OutG e s σ m0 ys v) : v.strip = lstV s ys ∧ v.strip.free = true := by
  rcases h with ⟨rfl, rfl⟩ | ⟨j, _, _, rfl, _, h5⟩
  · exact ⟨rfl, rfl⟩
  · exact ⟨by unfold lstV; rw [if_neg h5]; simp [AVal.strip, freeL_strip hf], by simp [AVal.strip, AVal.free, freeL_strip hf, hf]⟩
theorem cp_tl {t : List Rw} : TL (t.map Rw.cp) (lstV 2 (rws (t.map Rw.cp))) := by
  refine ⟨?_, fun r hr => ?_⟩
  · unfold lstV
    by_cases e : rws (t.map Rw.cp) = []
    · rw [if_pos e]; exact .inl ⟨rfl, by simpa [rws] using e⟩
    · rw [if_neg e]; exact .inr rfl
  · obtain ⟨s, _, rfl⟩ := List.mem_map.1 hr
    exact .inr rfl
section
variable {X : FuncId → Option XFunc} (hX : MtACode X)
include hX
theorem u75 {t : List Rw} {w : AVal} (hT : TL t w) (hn : t.length ≤ 1000000) (hp : ∀ i, i < t.length → (nth t i).pts.length ≤ 1000000) (σ : Store) : Run X (.call 75) [w] σ = some (.ret, [lstV 2 (rws (t.map Rw.cp))], σ) := by
  have hE : ∃ v, v = lstV 2 (rws (t.map Rw.cp)) ∧ ∀ σ, Run X (.call 75) [w] σ = some (.ret, [v], σ) := by
    refine call1E hX.h75 (by rw [hT.strip]; exact hT.free) (by decide) (fun tm hl h0 => ?_)
    rw [hT.strip] at h0
    replace hl : tm.length = 28 := hl
    unfold GivesE
    rw [Run_cut 2]
    have e1 : XCode.cutB 2 xf75.body = .block 0 (.loop xf75l0) := rfl
    rw [e1]
    have kA : Ends (Run X (.code (XCode.cutP 2 xf75.body)) tm Store.empty) .normal fun tm σ => tm.length = 28 ∧ XOpd.eval tm (.t 0) = w ∧ XOpd.eval tm (.t 4) = .int .i64 ((0 : Nat) : Int) ∧ XOpd.eval tm (.t 3) = .nils := by
      simp [xf75, XCode.cutP, hl, h0]
    obtain ⟨o1, a1, a2, a3, a4⟩ := out_of kA
    rw [o1, thenC_normal, Run_block]
    generalize outT X _ tm Store.empty = tm1 at *
    generalize outS X _ tm Store.empty = σ1 at *
    obtain ⟨q1, q2⟩ := out_of (loop75 (X := X) hT hn hp tm1 σ1 ⟨a1, a2, a3, [], .inl ⟨a4, rfl⟩, rfl, rfl⟩)
    rw [q1]
    generalize outT X (.loop xf75l0) tm1 σ1 = tm2 at *
    generalize outS X (.loop xf75l0) tm1 σ1 = σ2 at *
    obtain ⟨b1, b2, b3, ys, hO, hs, hlen⟩ := q2
    rw [List.take_length] at hs
    generalize hv : XOpd.eval tm2 (.t 3) = v at *
    have hfree : freeL (rws (t.map Rw.cp)) = true := rws_free (cp_tl (t := t)).r
    have hst : v.strip = lstV 2 (rws (t.map Rw.cp)) ∧ v.strip.free = true := by
      rcases hO with ⟨rfl, rfl⟩ | ⟨j, _, _, rfl, _, h5⟩
      · rw [← hs]; exact ⟨rfl, rfl⟩
      · have hne : rws (t.map Rw.cp) ≠ [] := by
          rw [← hs]
          cases ys with
          | nil => exact absurd rfl h5
          | cons a l => simp [stripL]
        exact ⟨by unfold lstV; rw [if_neg hne]; simp [AVal.strip, hs], by simp [AVal.strip, AVal.free, hs, hfree]⟩
    simp [xf75, XCode.cutR, b1, hv, Told, hst.1]
    rw [← hst.1]; exact hst.2
  obtain ⟨v, rfl, h⟩ := hE
  exact h σ
theorem u18 {t : List Rw} {w : AVal} (hT : TL t w) (hn : t.length ≤ 1000000) (hp : ∀ i, i < t.length → (nth t i).pts.length ≤ 1000000) (σ : Store) : Run X (.call 18) [.agg [w]] σ = some (.ret, [.agg [lstV 2 (rws (t.map Rw.cp))]], σ) := by
  have u75 := u75 hX hT hn hp
  have c := cp_tl (t := t)
  generalize lstV 2 (rws (t.map Rw.cp)) = v at *
  have key := call1 (X := X) (a := .agg [w]) (v := .agg [v]) hX.h18 (by simp [AVal.strip, stripL, AVal.free, freeL, hT.strip, hT.free]) (by decide) (fun tm hl h0 => ?_) (by simp [AVal.strip, stripL, AVal.free, freeL, c.strip, c.free]) σ
  · simpa [AVal.strip, stripL, c.strip] using key
  simp only [AVal.strip, stripL, hT.strip] at h0
  replace hl : tm.length = 7 := hl
  unfold Gives
  have co := c.one
  rcases c.v with ⟨rfl, _⟩ | rfl
  · simp [xf18, hl, h0, u75, hT.one, Store.empty, Store.new, Store.put, Store.get, look, putL, setR, Store.only, Store.merge, touch, wrote, upTo, isIn, okRec, hits, capsOf, xcaps, stripL, AVal.strip, freeL, AVal.free, fillR, chunks, mkV, List.filter]
  · simp [xf18, hl, h0, u75, hT.one, Store.empty, Store.new, Store.put, Store.get, look, putL, setR, Store.only, Store.merge, touch, wrote, upTo, isIn, okRec, hits, capsOf, xcaps, stripL, AVal.strip, freeL, AVal.free, fillR, chunks, mkV, List.filter]
/-! Few. -/
omit hX in
def I16 (w : AVal) (i : Nat) (tm : List AVal) (σ : Store) : Prop := tm.length = 23 ∧ XOpd.eval tm (.t 1) = .ptr 0 0 ∧ XOpd.eval tm (.t 3) = .int .i64 i ∧ σ.get 0 = some (.cells [w])
omit hX in
theorem loop16 {t : List Rw} {w : AVal} (hT : TL t w) (hn : t.length ≤ 1000000) (tm : List AVal) (σ : Store) (hI : I16 w 0 tm σ) :
    Ends (Run X (.code (.loop xf16l0)) tm σ) (exF (.exit 0) .ret (fstP (fun i => decide (8 < ((nth t i).pts.length : Int))) t.length 0)) (quF (fun tm σ => tm.length = 23) (fun j tm σ => tm.length = 23 ∧ XOpd.eval tm (.t 2) = .bool false) (fstP (fun i => decide (8 < ((nth t i).pts.length : Int))) t.length 0)) := by
  have hx := hT.xlen
  refine loop_stop t.length (fun i => decide (8 < ((nth t i).pts.length : Int))) (I16 w) (by simp) (by simp) (fun i tm σ hi hp h => ?_) (fun i tm σ hi hp h => ?_) (fun tm σ h => ?_) t.length 0 (by omega) tm σ hI
  · obtain ⟨hl, h1, h3, g0⟩ := h
    obtain ⟨q, hv⟩ := nth_at hT hi
    have hvx := hv.xlen
    have hw : IntKind.i64.wrap ((i : Int) + 1) = ((i + 1 : Nat) : Int) := by rw [wrap_i64] <;> omega
    have hp : ¬ 8 < ((nth t i).pts.length : Int) := of_decide_eq_false hp
    rw [hT.list (by omega)] at g0 hx ⊢
    simp [xf16l0, I16, hl, h1, h3, g0, hx, hi, q, hvx, hp, hw, put_next, new_next, Store.get_new, Store.get_put, put_get, setR, only_get, merge_get', only_next, merge_next, upTo_self, upTo_one, merge_only, touch, wrote, isIn, okRec, hits, capsOf, xcaps, stripL, AVal.strip, freeL, AVal.free, fillR, chunks, mkV]
  · obtain ⟨hl, h1, h3, g0⟩ := h
    obtain ⟨q, hv⟩ := nth_at hT hi
    have hvx := hv.xlen
    have hp : 8 < ((nth t i).pts.length : Int) := of_decide_eq_true hp
    rw [hT.list (by omega)] at g0 hx
    simp [xf16l0, hl, h1, h3, g0, hx, hi, q, hvx, hp, put_next, new_next, Store.get_new, Store.get_put, put_get, setR, only_get, merge_get', only_next, merge_next, upTo_self, upTo_one, merge_only, touch, wrote, isIn, okRec, hits, capsOf, xcaps, stripL, AVal.strip, freeL, AVal.free, fillR, chunks, mkV]
  · obtain ⟨hl, h1, h3, g0⟩ := h
    simp [xf16l0, hl, h1, h3, g0, hx, put_next, new_next, Store.get_new, Store.get_put, put_get, setR, only_get, merge_get', only_next, merge_next, upTo_self, upTo_one, merge_only, touch, wrote, isIn, okRec, hits, capsOf, xcaps, stripL, AVal.strip, freeL, AVal.free, fillR, chunks, mkV]
omit hX in
def few (t : List Rw) : Bool := decide ((t.length : Int) ≤ 8) && (fstP (fun i => decide (8 < ((nth t i).pts.length : Int))) t.length 0).isNone
omit hX in
theorem few_ok {t : List Rw} (h : few t = true) : t.length ≤ 8 ∧ ∀ i, i < t.length → (nth t i).pts.length ≤ 8 := by
  unfold few at h
  simp only [Bool.and_eq_true, decide_eq_true_eq, Option.isNone_iff_eq_none] at h
  refine ⟨by omega, fun i hi => ?_⟩
  have := fstP_none h.2 i (by omega) (by omega)
  have := of_decide_eq_false this
  omega
theorem u16 {t : List Rw} {w : AVal} (hT : TL t w) (σ : Store) : Run X (.call 16) [.agg [w]] σ = some (.ret, [.bool (few t)], σ) := by
  have hx := hT.xlen
  refine call1 (a := .agg [w]) (v := .bool (few t)) hX.h16 (by simp [AVal.strip, stripL, AVal.free, freeL, hT.strip, hT.free]) (by decide) (fun tm hl h0 => ?_) rfl σ
  simp only [AVal.strip, stripL, hT.strip] at h0
  replace hl : tm.length = 23 := hl
  unfold Gives few
  by_cases c : (t.length : Int) ≤ 8
  case neg =>
    have d : 8 < (t.length : Int) := by omega
    simp [xf16, hl, h0, hx, c, d, hT.one, hT.strip, hT.free, Store.empty, Store.new, Store.put, Store.get, look, putL, setR, Store.only, Store.merge, touch, wrote, upTo, isIn, okRec, hits, capsOf, xcaps, stripL, AVal.strip, freeL, AVal.free, fillR, chunks, mkV, List.filter]
    done
  have d : ¬ 8 < (t.length : Int) := by omega
  rw [Run_cut 2]
  have e1 : XCode.cutB 2 xf16.body = .block 0 (.loop xf16l0) := rfl
  rw [e1]
  have kA : Ends (Run X (.code (XCode.cutP 2 xf16.body)) tm Store.empty) .normal fun tm σ => I16 w 0 tm σ := by
    simp [xf16, XCode.cutP, I16, hl, h0, hx, d, hT.one, hT.strip, hT.free, Store.empty, Store.new, Store.put, Store.get, look, putL, setR, Store.only, Store.merge, touch, wrote, upTo, isIn, okRec, hits, capsOf, xcaps, stripL, AVal.strip, freeL, AVal.free, fillR, chunks, mkV, List.filter]
  obtain ⟨o1, o2⟩ := out_of kA
  rw [o1, thenC_normal, Run_block]
  generalize outT X _ tm Store.empty = tm1 at *
  generalize outS X _ tm Store.empty = σ1 at *
  obtain ⟨q1, q2⟩ := out_of (loop16 (X := X) hT (by omega) tm1 σ1 o2)
  rw [q1]
  generalize outT X (.loop xf16l0) tm1 σ1 = tm2 at *
  generalize outS X (.loop xf16l0) tm1 σ1 = σ2 at *
  cases hf' : fstP (fun i => decide (8 < ((nth t i).pts.length : Int))) t.length 0 with
  | some j =>
    rw [hf'] at q2
    obtain ⟨b1, b2⟩ := q2
    simp [exF, xf16, XCode.cutR, b1, b2]
  | none =>
    rw [hf'] at q2
    have b1 : tm2.length = 23 := q2
    simp [exF, xf16, XCode.cutR, b1, c]
/-! The error of a row. -/
omit hX in
def I85 (op : Int) (v : AVal) (i : Nat) (tm : List AVal) (σ : Store) : Prop := tm.length = 65 ∧ XOpd.eval tm (.t 5) = .ptr 1 0 ∧ XOpd.eval tm (.t 6) = .int .i64 i ∧ σ.get 1 = some (.cells [.int .i64 op, v]) ∧ 2 ≤ σ.next
omit hX in
theorem ptE_two (p : Pt) : ptE p = if win p.h (-1000) 1000 && win p.f (-1000) 1000 && win p.p (-10000) 10000 then 0 else 2 := rfl
theorem loop85 {l : List Pt} {v : AVal} {op : Int} (hv : PL l v) (hn : l.length ≤ 1000000) (tm : List AVal) (σ : Store) (hI : I85 op v 0 tm σ) :
    Ends (Run X (.code (.loop xf85l0)) tm σ) (exF (.exit 0) .ret (fstP (fun i => decide (ptE (pat l i) ≠ 0)) l.length 0)) (quF (fun tm σ => tm.length = 65) (fun j tm σ => tm.length = 65 ∧ XOpd.eval tm (.t 4) = .int .i64 2) (fstP (fun i => decide (ptE (pat l i) ≠ 0)) l.length 0)) := by
  have hx := hv.xlen
  refine loop_stop l.length (fun i => decide (ptE (pat l i) ≠ 0)) (I85 op v) (by simp) (by simp) (fun i tm σ hi hp h => ?_) (fun i tm σ hi hp h => ?_) (fun tm σ h => ?_) l.length 0 (by omega) tm σ hI
  · obtain ⟨hl, h5, h6, g1, nx⟩ := h
    obtain ⟨N, hN⟩ : ∃ N, σ.next = N + 2 := ⟨σ.next - 2, by omega⟩
    have q := pat_at hi
    have hw : IntKind.i64.wrap ((i : Int) + 1) = ((i + 1 : Nat) : Int) := by rw [wrap_i64] <;> omega
    have hp := of_decide_eq_false hp
    rw [ptE_two] at hp
    generalize pat l i = p at *
    have c1 : win p.h (-1000) 1000 = true := by cases c : win p.h (-1000) 1000 <;> simp_all
    have c2 : win p.f (-1000) 1000 = true := by cases c : win p.f (-1000) 1000 <;> simp_all
    have c3 : win p.p (-10000) 10000 = true := by cases c : win p.p (-10000) 10000 <;> simp_all
    rw [hv.list (by omega)] at g1 hx ⊢
    simp [xf85l0, I85, hl, h5, h6, g1, hN, hx, hi, q, u35 hX, u156 hX, c1, c2, c3, hw, put_next, new_next, Store.get_new, Store.get_put, put_get, setR, only_get, merge_get', only_next, merge_next, upTo_self, upTo_one, merge_only, touch, wrote, isIn, okRec, hits, capsOf, xcaps, stripL, AVal.strip, freeL, AVal.free, fillR, chunks, mkV]
  · obtain ⟨hl, h5, h6, g1, nx⟩ := h
    obtain ⟨N, hN⟩ : ∃ N, σ.next = N + 2 := ⟨σ.next - 2, by omega⟩
    have q := pat_at hi
    have hp := of_decide_eq_true hp
    rw [ptE_two] at hp
    generalize pat l i = p at *
    rw [hv.list (by omega)] at g1 hx
    cases c1 : win p.h (-1000) 1000
    · simp [xf85l0, hl, h5, h6, g1, hN, hx, hi, q, u35 hX, u156 hX, c1, put_next, new_next, Store.get_new, Store.get_put, put_get, setR, only_get, merge_get', only_next, merge_next, upTo_self, upTo_one, merge_only, touch, wrote, isIn, okRec, hits, capsOf, xcaps, stripL, AVal.strip, freeL, AVal.free, fillR, chunks, mkV]
    cases c2 : win p.f (-1000) 1000
    · simp [xf85l0, hl, h5, h6, g1, hN, hx, hi, q, u35 hX, u156 hX, c1, c2, put_next, new_next, Store.get_new, Store.get_put, put_get, setR, only_get, merge_get', only_next, merge_next, upTo_self, upTo_one, merge_only, touch, wrote, isIn, okRec, hits, capsOf, xcaps, stripL, AVal.strip, freeL, AVal.free, fillR, chunks, mkV]
    cases c3 : win p.p (-10000) 10000
    · simp [xf85l0, hl, h5, h6, g1, hN, hx, hi, q, u35 hX, u156 hX, c1, c2, c3, put_next, new_next, Store.get_new, Store.get_put, put_get, setR, only_get, merge_get', only_next, merge_next, upTo_self, upTo_one, merge_only, touch, wrote, isIn, okRec, hits, capsOf, xcaps, stripL, AVal.strip, freeL, AVal.free, fillR, chunks, mkV]
    · simp [c1, c2, c3] at hp
  · obtain ⟨hl, h5, h6, g1, nx⟩ := h
    simp [xf85l0, hl, h5, h6, g1, hx, put_next, new_next, Store.get_new, Store.get_put, put_get, setR, only_get, merge_get', only_next, merge_next, upTo_self, upTo_one, merge_only, touch, wrote, isIn, okRec, hits, capsOf, xcaps, stripL, AVal.strip, freeL, AVal.free, fillR, chunks, mkV]
theorem u85 {t : List Rw} {w : AVal} (hT : TL t w) {i : Nat} (hi : i < t.length) (hn : t.length ≤ 1000000) (hm : (nth t i).pts.length ≤ 1000000) (σ : Store) : Run X (.call 85) [.agg [w], .int .i64 i] σ = some (.ret, [.int .i64 (rowE (nth t 0).pts.length (nth t i).op (nth t i).pts)], σ) := by
  obtain ⟨q, hv⟩ := nth_at hT hi
  obtain ⟨q0, hv0⟩ := nth_at hT (i := 0) (by omega)
  have x0 := hv0.xlen; have x1 := hv.xlen
  have o1 := hv.one; have s1 := hv.strip; have f1 := hv.free
  have sr : stripL (rws t) = rws t := freeL_strip (rws_free hT.r)
  have fr : freeL (rws t) = true := rws_free hT.r
  have wl := hT.list (by omega)
  have hto := hT.one
  refine call2 (a := .agg [w]) (v := .int .i64 (rowE (nth t 0).pts.length (nth t i).op (nth t i).pts)) hX.h85 (by simp [AVal.strip, stripL, AVal.free, freeL, hT.strip, hT.free]) rfl (by decide) (fun tm hl h0 h1 => ?_) rfl σ
  simp only [AVal.strip, stripL, hT.strip] at h0 h1
  replace hl : tm.length = 65 := hl
  rw [wl] at h0
  unfold Gives rowE
  cases c1 : win (nth t i).op 0 100
  · simp [xf85, hl, h0, h1, q, u58 hX, c1, sr, fr, o1, s1, f1, Store.empty, Store.new, Store.put, Store.get, look, putL, setR, Store.only, Store.merge, touch, wrote, upTo, isIn, okRec, hits, capsOf, xcaps, stripL, AVal.strip, freeL, AVal.free, fillR, chunks, mkV, List.filter]
  by_cases c2 : (nth t i).pts.length < 2
  · have d2 : ((nth t i).pts.length : Int) < 2 := by omega
    simp [xf85, hl, h0, h1, q, q0, x0, x1, u58 hX, c1, c2, d2, sr, fr, o1, s1, f1, Store.empty, Store.new, Store.put, Store.get, look, putL, setR, Store.only, Store.merge, touch, wrote, upTo, isIn, okRec, hits, capsOf, xcaps, stripL, AVal.strip, freeL, AVal.free, fillR, chunks, mkV, List.filter]
  by_cases c3 : (nth t i).pts.length = (nth t 0).pts.length
  case neg =>
    have d2 : ¬ ((nth t i).pts.length : Int) < 2 := by omega
    have d3 : ¬ ((nth t i).pts.length : Int) = ((nth t 0).pts.length : Int) := by omega
    simp [xf85, hl, h0, h1, q, q0, x0, x1, u58 hX, c1, c2, c3, d2, d3, sr, fr, o1, s1, f1, Store.empty, Store.new, Store.put, Store.get, look, putL, setR, Store.only, Store.merge, touch, wrote, upTo, isIn, okRec, hits, capsOf, xcaps, stripL, AVal.strip, freeL, AVal.free, fillR, chunks, mkV, List.filter]
    done
  have d2 : ¬ ((nth t i).pts.length : Int) < 2 := by omega
  have d3 : ((nth t i).pts.length : Int) = ((nth t 0).pts.length : Int) := by omega
  by_cases c4 : 6 < (nth t i).pts.length
  · have d4 : 6 < ((nth t i).pts.length : Int) := by omega
    have e : (if true = true then if (nth t i).pts.length < 2 ∨ (nth t i).pts.length ≠ (nth t 0).pts.length then (10 : Int) else if 6 < (nth t i).pts.length then 8 else ptsE (nth t i).pts else 2) = 8 := by
      rw [if_pos rfl, if_neg (by omega), if_pos c4]
    rw [e]
    generalize nth t i = r at *
    generalize nth t 0 = r0 at *
    have d5 : ((r0.pts.length : Int) < 2) = False := by rw [← d3]; simp [d2]
    have d6 : (6 < (r0.pts.length : Int)) = True := by rw [← d3]; simp [d4]
    simp [xf85, hl, h0, h1, q, q0, x0, x1, u58 hX, c1, d2, d3, d4, d5, d6, sr, fr, o1, s1, f1, Store.empty, Store.new, Store.put, Store.get, look, putL, setR, Store.only, Store.merge, touch, wrote, upTo, isIn, okRec, hits, capsOf, xcaps, stripL, AVal.strip, freeL, AVal.free, fillR, chunks, mkV, List.filter]
  have d4 : ¬ 6 < ((nth t i).pts.length : Int) := by omega
  have e : (if true = true then if (nth t i).pts.length < 2 ∨ (nth t i).pts.length ≠ (nth t 0).pts.length then (10 : Int) else if 6 < (nth t i).pts.length then 8 else ptsE (nth t i).pts else 2) = ptsE (nth t i).pts := by
    rw [if_pos rfl, if_neg (by omega), if_neg c4]
  rw [e]
  rw [Run_cut 5]
  have e1 : XCode.cutB 5 xf85.body = .block 0 (.loop xf85l0) := rfl
  rw [e1]
  have kA : Ends (Run X (.code (XCode.cutP 5 xf85.body)) tm Store.empty) .normal fun tm σ => I85 (nth t i).op (nth t i).v 0 tm σ := by
    generalize nth t i = r at *
    generalize nth t 0 = r0 at *
    have d5 : ((r0.pts.length : Int) < 2) = False := by rw [← d3]; simp [d2]
    have d6 : (6 < (r0.pts.length : Int)) = False := by rw [← d3]; simp [d4]
    simp [xf85, XCode.cutP, I85, hl, h0, h1, q, q0, x0, x1, u58 hX, c1, d2, d3, d4, d5, d6, sr, fr, o1, s1, f1, Store.empty, Store.new, Store.put, Store.get, look, putL, setR, Store.only, Store.merge, touch, wrote, upTo, isIn, okRec, hits, capsOf, xcaps, stripL, AVal.strip, freeL, AVal.free, fillR, chunks, mkV, List.filter]
  obtain ⟨o1, o2⟩ := out_of kA
  rw [o1, thenC_normal, Run_block]
  generalize outT X _ tm Store.empty = tm1 at *
  generalize outS X _ tm Store.empty = σ1 at *
  obtain ⟨q1, q2⟩ := out_of (loop85 hX hv hm tm1 σ1 o2)
  rw [q1]
  generalize outT X (.loop xf85l0) tm1 σ1 = tm2 at *
  generalize outS X (.loop xf85l0) tm1 σ1 = σ2 at *
  rw [ptsE_fst]
  cases hf' : fstP (fun k => decide (ptE (pat (nth t i).pts k) ≠ 0)) (nth t i).pts.length 0 with
  | some j =>
    rw [hf'] at q2
    obtain ⟨b1, b2⟩ := q2
    have hne := of_decide_eq_true (fstP_some hf').2.2.1
    have e2 : ptE (pat (nth t i).pts j) = 2 := by rw [ptE_two] at hne ⊢; split <;> simp_all
    simp [exF, xf85, XCode.cutR, b1, b2, e2]
  | none =>
    rw [hf'] at q2
    have b1 : tm2.length = 65 := q2
    simp [exF, xf85, XCode.cutR, b1]
end
end Go.Proofs.YtffacomibmgecaaGreat.Eng

/-
  MACHINE: the reference's triangles and areas.
-/
namespace Go.Proofs.YtffacomibmgecaaGreat.Eng
set_option linter.unusedSimpArgs false
set_option linter.unusedVariables false
theorem appN_list {σ : Store} {e s b j : Nat} {ys zs : List AVal} {tk : Option Nat} (hs0 : 0 < s) (hz : zs ≠ []) (ho : ones zs = true) (hb : b ≤ 1000) (hl : ys.length ≤ 1000000) (hl2 : zs.length ≤ 1000000) (hj : σ.get j = some (.tok e s ys.length)) :
    xappend σ e s b (.list s ys (some j)) (.list s zs tk) = some (.list s (ys ++ zs) (some j), σ.put j (.tok e s (ys.length + zs.length))) := by
  match zs, hz with
  | z :: zs, _ =>
    simp only [List.length_cons] at hl2
    have h1 : (ys.length + (zs.length + 1)) * b ≤ 1000000000000 := Nat.le_trans (Nat.mul_le_mul (by omega : ys.length + (zs.length + 1) ≤ 2000000) hb) (by decide)
    have h2 : ys.length + (zs.length + 1) ≤ 1000000000000 := by omega
    simp [xappend, ho, hs0, h1, h2, hj]
theorem appN_nils {σ : Store} {e s b : Nat} {zs : List AVal} {tk : Option Nat} (hs0 : 0 < s) (hz : zs ≠ []) (ho : ones zs = true) (hb : b ≤ 1000) (hl2 : zs.length ≤ 1000000) :
    xappend σ e s b .nils (.list s zs tk) = some (.list s zs (some σ.next), σ.new (.tok e s zs.length)) := by
  match zs, hz with
  | z :: zs, _ =>
    simp only [List.length_cons] at hl2
    have h1 : (zs.length + 1) * b ≤ 1000000000000 := Nat.le_trans (Nat.mul_le_mul (by omega : zs.length + 1 ≤ 2000000) hb) (by decide)
    have h2 : zs.length ≤ 999999999999 := by omega
    simp [xappend, ho, hs0, h1, h2]
theorem refs_ones (l : List Tri) : ones (refs l) = true := by
  simp only [ones, refs, List.all_eq_true]
  intro x hx
  obtain ⟨y, _, rfl⟩ := List.mem_map.1 hx
  simp [Tri.ref, AVal.cells]
section
variable {X : FuncId → Option XFunc} (hX : MtACode X)
include hX
omit hX in
def I86 (a b : Rw) (k : Nat) (tm : List AVal) (σ : Store) : Prop := tm.length = 86 ∧ XOpd.eval tm (.t 5) = .ptr 1 0 ∧ XOpd.eval tm (.t 6) = .ptr 2 0 ∧ XOpd.eval tm (.t 8) = .int .i64 k ∧ σ.get 1 = some (.cells [.int .i64 a.op, a.v]) ∧ σ.get 2 = some (.cells [.int .i64 b.op, b.v]) ∧ 3 ≤ σ.next ∧ OutG 164 12 σ 3 (refs (trisB a b k 0)) (XOpd.eval tm (.t 7))
omit hX in
set_option maxHeartbeats 4000000 in
theorem loop86 {a b : Rw} (ha : PL a.pts a.v) (hb : PL b.pts b.v) (hlen : b.pts.length = a.pts.length) (h1 : 1 ≤ a.pts.length) (hn : a.pts.length ≤ 1000) (tm : List AVal) (σ : Store) (hI : I86 a b 0 tm σ) :
    Ends (Run X (.code (.loop xf86l0)) tm σ) (.exit 0) fun tm σ => I86 a b (a.pts.length - 1) tm σ := by
  have hx := ha.xlen
  refine loop_all (a.pts.length - 1) (I86 a b) (by simp) (fun k tm σ hk h => ?_) (fun tm σ h => ?_) tm σ hI
  · obtain ⟨hl, h5, h6, h8, g1, g2, nx, hO⟩ := h
    obtain ⟨N, hN⟩ : ∃ N, σ.next = N + 3 := ⟨σ.next - 3, by omega⟩
    have a0 := pat_at (l := a.pts) (i := k) (by omega)
    have a1 := pat_at (l := a.pts) (i := k + 1) (by omega)
    have b0 := pat_at (l := b.pts) (i := k) (by omega)
    have b1 := pat_at (l := b.pts) (i := k + 1) (by omega)
    have hw : IntKind.i64.wrap ((k : Int) + 1) = ((k + 1 : Nat) : Int) := by rw [wrap_i64] <;> omega
    have ck : ((k + 1 : Nat) : Int) = (k : Int) + 1 := rfl
    rw [ck] at hw
    have hlt : (k : Int) + 1 < (a.pts.length : Int) := by omega
    have ix : ∀ q : IntKind, idx (.int q ((k : Int) + 1)) = some (k + 1) := fun q => idx_nat q (k + 1)
    have hs : refs (trisB a b (k + 1) 0) = refs (trisB a b k 0) ++ [(tri1 a b k).ref, (tri2 a b k).ref] := by
      rw [trisB_snoc, refs_append, Nat.zero_add]; rfl
    have hlr : (refs (trisB a b k 0)).length ≤ 999999 := by simp [refs, trisB_len]; omega
    have hlr' : (refs (trisB a b k 0)).length ≤ 1000000 := by omega
    unfold I86
    rw [hs]
    simp only [Tri.ref, tri1, tri2]
    generalize refs (trisB a b k 0) = ys at *
    rw [ha.list (by omega)] at g1 hx ⊢
    rw [hb.list (by omega)] at g2 ⊢
    rcases hO with ⟨h7, hy⟩ | ⟨j, j1, j2, h7, j3, j4⟩
    · subst hy
      have key : Ends (Run X (.code xf86l0) tm σ) .normal fun tm' σ' => tm'.length = 86 ∧ XOpd.eval tm' (.t 5) = .ptr 1 0 ∧ XOpd.eval tm' (.t 6) = .ptr 2 0 ∧ XOpd.eval tm' (.t 8) = .int .i64 ((k + 1 : Nat) : Int) ∧ σ'.get 1 = some (.cells [.int .i64 a.op, .list 3 (encs a.pts) none]) ∧ σ'.get 2 = some (.cells [.int .i64 b.op, .list 3 (encs b.pts) none]) ∧ σ'.next = N + 6 ∧
          XOpd.eval tm' (.t 7) = .list 12 ([] ++ [(tri1 a b k).ref, (tri2 a b k).ref]) (some (N + 4)) ∧ σ'.get (N + 4) = some (.tok 164 12 2) := by
        simp [xf86l0, hl, h5, h6, h7, h8, g1, g2, hN, hx, hlt, hw, ix, a0, a1, b0, b1, app1_nils, app1_list, Tri.ref, tri1, tri2, ix1, ix2, AVal.cells, put_next, new_next, Store.get_new, Store.get_put, put_get, setR, only_get, merge_get', only_next, merge_next, upTo_self, upTo_one, merge_only, touch, wrote, isIn, okRec, hits, capsOf, xcaps, stripL, AVal.strip, freeL, AVal.free, fillR, chunks, mkV]
      obtain ⟨tm', σ', e, c1, c2, c3, c4, c5, c6, c7, c8, c9⟩ := key
      exact ⟨tm', σ', e, c1, c2, c3, c4, c5, c6, by omega, .inr ⟨N + 4, by omega, by omega, c8, by rw [c9]; rfl, by simp⟩⟩
    · have key : Ends (Run X (.code xf86l0) tm σ) .normal fun tm' σ' => tm'.length = 86 ∧ XOpd.eval tm' (.t 5) = .ptr 1 0 ∧ XOpd.eval tm' (.t 6) = .ptr 2 0 ∧ XOpd.eval tm' (.t 8) = .int .i64 ((k + 1 : Nat) : Int) ∧ σ'.get 1 = some (.cells [.int .i64 a.op, .list 3 (encs a.pts) none]) ∧ σ'.get 2 = some (.cells [.int .i64 b.op, .list 3 (encs b.pts) none]) ∧ σ'.next = N + 5 ∧
          XOpd.eval tm' (.t 7) = .list 12 (ys ++ [(tri1 a b k).ref, (tri2 a b k).ref]) (some j) ∧ σ'.get j = some (.tok 164 12 (ys.length + 2)) := by
        have k1 : ¬ j = N + 3 := by omega
        have k2 : ¬ N + 3 = j := by omega
        have k3 : ¬ j = N + 4 := by omega
        have k4 : ¬ N + 4 = j := by omega
        have k5 : ¬ j = 1 := by omega
        have k6 : ¬ 1 = j := by omega
        have k7 : ¬ j = 2 := by omega
        have k8 : ¬ 2 = j := by omega
        have k9 : ¬ j = N + 3 + 1 := by omega
        have k10 : ¬ N + 3 + 1 = j := by omega
        simp [xf86l0, hl, h5, h6, h7, h8, g1, g2, hN, hx, hlt, hw, ix, a0, a1, b0, b1, app1_list, Tri.ref, tri1, tri2, ix1, ix2, j3, hlr, hlr', k1, k2, k3, k4, k5, k6, k7, k8, k9, k10, AVal.cells, put_next, new_next, Store.get_new, Store.get_put, put_get, setR, only_get, merge_get', only_next, merge_next, upTo_self, upTo_one, merge_only, touch, wrote, isIn, okRec, hits, capsOf, xcaps, stripL, AVal.strip, freeL, AVal.free, fillR, chunks, mkV]
      obtain ⟨tm', σ', e, c1, c2, c3, c4, c5, c6, c7, c8, c9⟩ := key
      exact ⟨tm', σ', e, c1, c2, c3, c4, c5, c6, by omega, .inr ⟨j, j1, by omega, c8, by rw [c9]; simp, by simp⟩⟩
  · obtain ⟨hl, h5, h6, h8, g1, g2, nx, hO⟩ := h
    have hw : IntKind.i64.wrap (((a.pts.length - 1 : Nat) : Int) + 1) = (a.pts.length : Int) := by rw [wrap_i64] <;> omega
    have key : Ends (Run X (.code xf86l0) tm σ) (.exit 0) fun tm' σ' => tm'.length = 86 ∧ XOpd.eval tm' (.t 5) = .ptr 1 0 ∧ XOpd.eval tm' (.t 6) = .ptr 2 0 ∧ XOpd.eval tm' (.t 8) = .int .i64 ((a.pts.length - 1 : Nat) : Int) ∧ XOpd.eval tm' (.t 7) = XOpd.eval tm (.t 7) ∧ σ' = σ := by
      generalize ((a.pts.length - 1 : Nat) : Int) = z at *
      simp [xf86l0, hl, h5, h6, h8, g1, g2, hx, hw, ha.one, put_next, new_next, Store.get_new, Store.get_put, put_get, setR, only_get, merge_get', only_next, merge_next, upTo_self, upTo_one, merge_only, touch, wrote, isIn, okRec, hits, capsOf, xcaps, stripL, AVal.strip, freeL, AVal.free, fillR, chunks, mkV]
    obtain ⟨tm', σ', e, c1, c2, c3, c4, c5, c6⟩ := key
    subst c6
    exact ⟨tm', σ', e, c1, c2, c3, c4, g1, g2, nx, by rw [c5]; exact hO⟩
set_option maxHeartbeats 1000000 in
theorem u86 {t : List Rw} {w : AVal} (hT : TL t w) {i : Nat} (hi : i + 1 < t.length) (hn : t.length ≤ 1000000) (hlen : (nth t (i + 1)).pts.length = (nth t i).pts.length) (h1 : 2 ≤ (nth t i).pts.length) (hm : (nth t i).pts.length ≤ 1000) (σ : Store) : Run X (.call 86) [.agg [w], .int .i64 i] σ = some (.ret, [.list 12 (refs (trisAt t i)) none], σ) := by
  obtain ⟨q, hv⟩ := nth_at hT (i := i) (by omega)
  obtain ⟨q2, hv2⟩ := nth_at hT (i := i + 1) hi
  have o1 := hv.one; have s1 := hv.strip; have f1 := hv.free
  have o2 := hv2.one; have s2 := hv2.strip; have f2 := hv2.free
  have sr : stripL (rws t) = rws t := freeL_strip (rws_free hT.r)
  have fr : freeL (rws t) = true := rws_free hT.r
  have wl := hT.list (by omega)
  have hw : IntKind.i64.wrap ((i : Int) + 1) = ((i + 1 : Nat) : Int) := by rw [wrap_i64] <;> omega
  have hE : ∃ v, v = .list 12 (refs (trisAt t i)) none ∧ ∀ σ, Run X (.call 86) [.agg [w], .int .i64 i] σ = some (.ret, [v], σ) := by
    refine call2E (a := .agg [w]) hX.h86 (by simp [AVal.strip, stripL, AVal.free, freeL, hT.strip, hT.free]) rfl (by decide) (fun tm hl h0 h1' => ?_)
    simp only [AVal.strip, stripL, hT.strip] at h0 h1'
    replace hl : tm.length = 86 := hl
    unfold GivesE
    rw [Run_cut 3]
    have e1 : XCode.cutB 3 xf86.body = .block 0 (.loop xf86l0) := rfl
    rw [e1]
    have kA : Ends (Run X (.code (XCode.cutP 3 xf86.body)) tm Store.empty) .normal fun tm σ => tm.length = 86 ∧ XOpd.eval tm (.t 5) = .ptr 1 0 ∧ XOpd.eval tm (.t 6) = .ptr 2 0 ∧ XOpd.eval tm (.t 8) = .int .i64 ((0 : Nat) : Int) ∧ σ.get 1 = some (.cells [.int .i64 (nth t i).op, (nth t i).v]) ∧ σ.get 2 = some (.cells [.int .i64 (nth t (i + 1)).op, (nth t (i + 1)).v]) ∧ 3 ≤ σ.next ∧ XOpd.eval tm (.t 7) = .nils := by
      generalize nth t (i + 1) = r' at *
      generalize nth t i = r at *
      rw [wl] at h0
      have ix : ∀ q : IntKind, idx (.int q ((i : Int) + 1)) = some (i + 1) := fun q => idx_nat q (i + 1)
      simp [xf86, XCode.cutP, hl, h0, h1', q, q2, hw, ix, sr, fr, o1, s1, f1, o2, s2, f2, AVal.cells, Store.empty, Store.new, Store.put, Store.get, look, putL, setR, Store.only, Store.merge, touch, wrote, upTo, isIn, okRec, hits, capsOf, xcaps, stripL, AVal.strip, freeL, AVal.free, fillR, chunks, mkV, List.filter]
    obtain ⟨p1, a1, a2, a3, a4, a5, a6, a7, a8⟩ := out_of kA
    rw [p1, thenC_normal, Run_block]
    generalize outT X _ tm Store.empty = tm1 at *
    generalize outS X _ tm Store.empty = σ1 at *
    obtain ⟨q1, q3⟩ := out_of (loop86 (X := X) hv hv2 hlen (by omega) hm tm1 σ1 ⟨a1, a2, a3, a4, a5, a6, a7, .inl ⟨a8, rfl⟩⟩)
    rw [q1]
    generalize outT X (.loop xf86l0) tm1 σ1 = tm2 at *
    generalize outS X (.loop xf86l0) tm1 σ1 = σ2 at *
    obtain ⟨b1, _, _, _, _, _, _, hO⟩ := q3
    obtain ⟨hst, hfr⟩ := hO.strip' (refs_free _)
    have hne : refs (trisAt t i) ≠ [] := by
      unfold trisAt
      have : (refs (trisB (nth t i) (nth t (i + 1)) ((nth t i).pts.length - 1) 0)).length ≠ 0 := by simp [refs, trisB_len]; omega
      intro e; rw [e] at this; simp at this
    have hv' : (XOpd.eval tm2 (.t 7)).strip = .list 12 (refs (trisAt t i)) none := by
      rw [hst]; unfold lstV; exact if_neg hne
    simp [xf86, XCode.cutR, b1, Told]
    exact ⟨hfr, hv'⟩
  obtain ⟨v, rfl, h⟩ := hE
  exact h σ
end
end Go.Proofs.YtffacomibmgecaaGreat.Eng

/-
  MACHINE: the reference's check, areas, bounds.
-/
namespace Go.Proofs.YtffacomibmgecaaGreat.Eng
set_option linter.unusedSimpArgs false
set_option linter.unusedVariables false
def trisP (t : List Rw) : Nat → List Tri
  | 0 => []
  | n + 1 => trisP t n ++ trisAt t n
theorem trisF_snoc (t : List Rw) : ∀ n i, trisF t (n + 1) i = trisF t n i ++ (trisAt t (i + n)).map (fun x => (i + n, x))
  | 0, i => by simp [trisF]
  | n + 1, i => by
    rw [trisF, trisF_snoc t n (i + 1), trisF, List.append_assoc, show i + 1 + n = i + (n + 1) by omega]
theorem trisP_eq (t : List Rw) : ∀ n, trisP t n = (trisF t n 0).map (·.2)
  | 0 => rfl
  | n + 1 => by
    rw [trisP, trisP_eq t n, trisF_snoc]
    simp
    have : ((fun x : Nat × Tri => x.2) ∘ fun x => (n, x)) = id := rfl
    rw [this]; simp
theorem trisAt_ne {t : List Rw} {i : Nat} (h : 2 ≤ (nth t i).pts.length) : refs (trisAt t i) ≠ [] := by
  unfold trisAt
  have : (refs (trisB (nth t i) (nth t (i + 1)) ((nth t i).pts.length - 1) 0)).length ≠ 0 := by simp [refs, trisB_len]; omega
  intro e; rw [e] at this; simp at this
section
variable {X : FuncId → Option XFunc} (hX : MtACode X)
include hX
theorem u86' {t : List Rw} {w : AVal} (hT : TL t w) (ok : TOk t) {i : Nat} (hi : i + 1 < t.length) (σ : Store) : Run X (.call 86) [.agg [w], .int .i64 i] σ = some (.ret, [.list 12 (refs (trisAt t i)) none], σ) := by
  have t6 := ok.six
  have l0 := ok.len i (by omega); have l1 := ok.len (i + 1) (by omega); have p2 := ok.p2; have p6 := ok.p6
  exact u86 hX hT hi (by omega) (by omega) (by omega) (by omega) σ
omit hX in
def I88 (t : List Rw) (w : AVal) (i : Nat) (tm : List AVal) (σ : Store) : Prop := tm.length = 19 ∧ XOpd.eval tm (.t 1) = .ptr 0 0 ∧ XOpd.eval tm (.t 4) = .int .i64 i ∧ σ.get 0 = some (.cells [w]) ∧ 1 ≤ σ.next ∧ OutG 164 12 σ 1 (refs (trisP t i)) (XOpd.eval tm (.t 3))
set_option maxHeartbeats 1000000 in
theorem loop88 {t : List Rw} {w : AVal} (hT : TL t w) (ok : TOk t) (tm : List AVal) (σ : Store) (hI : I88 t w 0 tm σ) :
    Ends (Run X (.code (.loop xf88l0)) tm σ) (.exit 0) fun tm σ => I88 t w (t.length - 1) tm σ := by
  have t2 := ok.two; have t6 := ok.six
  have hx := hT.xlen
  have wl := hT.list (by omega)
  have ho := hT.one; have hs := hT.strip; have hf := hT.free
  refine loop_all (t.length - 1) (I88 t w) (by simp) (fun i tm σ hi h => ?_) (fun tm σ h => ?_) tm σ hI
  · obtain ⟨hl, h1, h4, g0, nx, hO⟩ := h
    obtain ⟨N, hN⟩ : ∃ N, σ.next = N + 1 := ⟨σ.next - 1, by omega⟩
    have hw : IntKind.i64.wrap ((i : Int) + 1) = ((i + 1 : Nat) : Int) := by rw [wrap_i64] <;> omega
    have hlt : (i : Int) + 1 < (t.length : Int) := by omega
    have u := u86' hX hT ok (i := i) (by omega)
    have hne := trisAt_ne (t := t) (i := i) (by have := ok.len i (by omega); have := ok.p2; omega)
    have hon := refs_ones (trisAt t i)
    have hz : (refs (trisAt t i)).length ≤ 1000000 := by
      have := ok.len i (by omega); have := ok.p6
      simp [refs, trisAt, trisB_len]; omega
    have hs' : refs (trisP t (i + 1)) = refs (trisP t i) ++ refs (trisAt t i) := by rw [trisP, refs_append]
    have hy : (refs (trisP t i)).length ≤ 1000000 := by
      have hle : ∀ n, n < t.length → (trisP t n).length ≤ 10 * n := by
        intro n
        induction n with
        | zero => intro _; simp [trisP]
        | succ n ih =>
          intro hn
          have := ih (by omega)
          have := ok.len n (by omega); have := ok.p6
          simp [trisP, trisAt, trisB_len]; omega
      have := hle i (by omega)
      simp [refs]; omega
    unfold I88
    rw [hs']
    generalize refs (trisP t i) = ys at *
    generalize refs (trisAt t i) = zs at *
    rcases hO with ⟨h3, e⟩ | ⟨j, j1, j2, h3, j3, j4⟩
    · subst e
      have key : Ends (Run X (.code xf88l0) tm σ) .normal fun tm' σ' => tm'.length = 19 ∧ XOpd.eval tm' (.t 1) = .ptr 0 0 ∧ XOpd.eval tm' (.t 4) = .int .i64 ((i + 1 : Nat) : Int) ∧ σ'.get 0 = some (.cells [w]) ∧ σ'.next = N + 2 ∧ XOpd.eval tm' (.t 3) = .list 12 zs (some (N + 1)) ∧ σ'.get (N + 1) = some (.tok 164 12 zs.length) := by
        simp [xf88l0, hl, h1, h3, h4, g0, hN, hx, hw, hlt, u, appN_nils, hne, hon, hz, ho, hs, hf, AVal.cells, put_next, new_next, Store.get_new, Store.get_put, put_get, setR, only_get, merge_get', only_next, merge_next, upTo_self, upTo_one, merge_only, touch, wrote, isIn, okRec, hits, capsOf, xcaps, stripL, AVal.strip, freeL, AVal.free, fillR, chunks, mkV]
      obtain ⟨tm', σ', e, c1, c2, c3, c4, c5, c6, c7⟩ := key
      exact ⟨tm', σ', e, c1, c2, c3, c4, by omega, .inr ⟨N + 1, by omega, by omega, c6, c7, hne⟩⟩
    · have key : Ends (Run X (.code xf88l0) tm σ) .normal fun tm' σ' => tm'.length = 19 ∧ XOpd.eval tm' (.t 1) = .ptr 0 0 ∧ XOpd.eval tm' (.t 4) = .int .i64 ((i + 1 : Nat) : Int) ∧ σ'.get 0 = some (.cells [w]) ∧ σ'.next = N + 1 ∧ XOpd.eval tm' (.t 3) = .list 12 (ys ++ zs) (some j) ∧ σ'.get j = some (.tok 164 12 (ys.length + zs.length)) := by
        have k1 : ¬ j = 0 := by omega
        have k2 : ¬ 0 = j := by omega
        simp [xf88l0, hl, h1, h3, h4, g0, hN, hx, hw, hlt, u, appN_list, hne, hon, hz, hy, j3, k1, k2, ho, hs, hf, AVal.cells, put_next, new_next, Store.get_new, Store.get_put, put_get, setR, only_get, merge_get', only_next, merge_next, upTo_self, upTo_one, merge_only, touch, wrote, isIn, okRec, hits, capsOf, xcaps, stripL, AVal.strip, freeL, AVal.free, fillR, chunks, mkV]
      obtain ⟨tm', σ', e, c1, c2, c3, c4, c5, c6, c7⟩ := key
      exact ⟨tm', σ', e, c1, c2, c3, c4, by omega, .inr ⟨j, j1, by omega, c6, by rw [c7]; simp, by simp [j4]⟩⟩
  · obtain ⟨hl, h1, h4, g0, nx, hO⟩ := h
    have hw : IntKind.i64.wrap (((t.length - 1 : Nat) : Int) + 1) = (t.length : Int) := by rw [wrap_i64] <;> omega
    have key : Ends (Run X (.code xf88l0) tm σ) (.exit 0) fun tm' σ' => tm'.length = 19 ∧ XOpd.eval tm' (.t 1) = .ptr 0 0 ∧ XOpd.eval tm' (.t 4) = .int .i64 ((t.length - 1 : Nat) : Int) ∧ XOpd.eval tm' (.t 3) = XOpd.eval tm (.t 3) ∧ σ' = σ := by
      generalize ((t.length - 1 : Nat) : Int) = z at *
      simp [xf88l0, hl, h1, h4, g0, hx, hw, ho, AVal.cells, put_next, new_next, Store.get_new, Store.get_put, put_get, setR, only_get, merge_get', only_next, merge_next, upTo_self, upTo_one, merge_only, touch, wrote, isIn, okRec, hits, capsOf, xcaps, stripL, AVal.strip, freeL, AVal.free, fillR, chunks, mkV]
    obtain ⟨tm', σ', e, c1, c2, c3, c4, c5⟩ := key
    subst c5
    exact ⟨tm', σ', e, c1, c2, c3, g0, nx, by rw [c4]; exact hO⟩
theorem u88 {t : List Rw} {w : AVal} (hT : TL t w) (ok : TOk t) (σ : Store) : Run X (.call 88) [.agg [w]] σ = some (.ret, [.list 12 (refs ((tris t).map (·.2))) none], σ) := by
  have t2 := ok.two
  have hE : ∃ v, v = .list 12 (refs ((tris t).map (·.2))) none ∧ ∀ σ, Run X (.call 88) [.agg [w]] σ = some (.ret, [v], σ) := by
    refine call1E (a := .agg [w]) hX.h88 (by simp [AVal.strip, stripL, AVal.free, freeL, hT.strip, hT.free]) (by decide) (fun tm hl h0 => ?_)
    simp only [AVal.strip, stripL, hT.strip] at h0
    replace hl : tm.length = 19 := hl
    unfold GivesE
    rw [Run_cut 2]
    have e1 : XCode.cutB 2 xf88.body = .block 0 (.loop xf88l0) := rfl
    rw [e1]
    have kA : Ends (Run X (.code (XCode.cutP 2 xf88.body)) tm Store.empty) .normal fun tm σ => tm.length = 19 ∧ XOpd.eval tm (.t 1) = .ptr 0 0 ∧ XOpd.eval tm (.t 4) = .int .i64 ((0 : Nat) : Int) ∧ σ.get 0 = some (.cells [w]) ∧ 1 ≤ σ.next ∧ XOpd.eval tm (.t 3) = .nils := by
      simp [xf88, XCode.cutP, hl, h0, hT.one, hT.strip, hT.free, Store.empty, Store.new, Store.put, Store.get, look, putL, setR, Store.only, Store.merge, touch, wrote, upTo, isIn, okRec, hits, capsOf, xcaps, stripL, AVal.strip, freeL, AVal.free, fillR, chunks, mkV, List.filter]
    obtain ⟨p1, a1, a2, a3, a4, a5, a6⟩ := out_of kA
    rw [p1, thenC_normal, Run_block]
    generalize outT X _ tm Store.empty = tm1 at *
    generalize outS X _ tm Store.empty = σ1 at *
    obtain ⟨q1, q3⟩ := out_of (loop88 hX hT ok tm1 σ1 ⟨a1, a2, a3, a4, a5, .inl ⟨a6, rfl⟩⟩)
    rw [q1]
    generalize outT X (.loop xf88l0) tm1 σ1 = tm2 at *
    generalize outS X (.loop xf88l0) tm1 σ1 = σ2 at *
    obtain ⟨b1, _, _, _, _, hO⟩ := q3
    obtain ⟨hst, hfr⟩ := hO.strip' (refs_free _)
    have hne : refs (trisP t (t.length - 1)) ≠ [] := by
      obtain ⟨n, hn⟩ : ∃ n, t.length - 1 = n + 1 := ⟨t.length - 2, by omega⟩
      rw [hn, trisP, refs_append]
      have := trisAt_ne (t := t) (i := n) (by have := ok.len n (by omega); have := ok.p2; omega)
      simp [this]
    have hv' : (XOpd.eval tm2 (.t 3)).strip = .list 12 (refs ((tris t).map (·.2))) none := by
      rw [hst]; unfold lstV; rw [if_neg hne, trisP_eq]; rfl
    simp [xf88, XCode.cutR, b1, Told]
    exact ⟨hfr, hv'⟩
  obtain ⟨v, rfl, h⟩ := hE
  exact h σ
/-! The sum of the areas. -/
omit hX in
def I22 (l : List (Nat × Tri)) (i : Nat) (tm : List AVal) (σ : Store) : Prop := tm.length = 36 ∧ XOpd.eval tm (.t 3) = .int .i64 (areaS (l.take i)) ∧ XOpd.eval tm (.t 4) = .list 12 (refs (l.map (·.2))) none ∧ XOpd.eval tm (.t 5) = .int .i64 i
set_option maxHeartbeats 1000000 in
theorem loop22 {l : List (Nat × Tri)} (hok : ∀ x, x ∈ l → TriOk x.2) (hn : l.length ≤ 50) (tm : List AVal) (σ : Store) (hI : I22 l 0 tm σ) :
    Ends (Run X (.code (.loop xf22l0)) tm σ) (.exit 0) fun tm σ => tm.length = 36 ∧ XOpd.eval tm (.t 3) = .int .i64 (areaS l) := by
  have hlen : (refs (l.map (·.2))).length = l.length := by simp [refs]
  refine loop_all l.length (I22 l) (by simp) (fun i tm σ hi h => ?_) (fun tm σ h => ?_) tm σ hI
  · obtain ⟨hl, h3, h4, h5⟩ := h
    have hw : IntKind.i64.wrap ((i : Int) + 1) = ((i + 1 : Nat) : Int) := by rw [wrap_i64] <;> omega
    obtain ⟨k1, k2, k3⟩ := hok l[i] (List.getElem_mem hi)
    have u := u87 hX (area_ok k1 k2 k3)
    have e2 : areaS (l.take (i + 1)) = areaS (l.take i) + area l[i].2.a l[i].2.b l[i].2.c := by
      rw [List.take_add_one, List.getElem?_eq_getElem hi]
      simp only [areaS, List.map_append, List.sum_append, Option.toList, List.map_cons, List.map_nil, List.sum_cons, List.sum_nil]
      unfold Tri.area; omega
    have bd := areaS_bd (l := l.take (i + 1)) (fun x hx => hok x (List.mem_of_mem_take hx))
    have hwr : IntKind.i64.wrap (areaS (l.take i) + area l[i].2.a l[i].2.b l[i].2.c) = areaS (l.take i) + area l[i].2.a l[i].2.b l[i].2.c := by
      rw [← e2]
      rw [List.length_take] at bd
      rw [wrap_i64] <;> omega
    have q : (refs (l.map (·.2)))[i]? = some (Tri.ref l[i].2) := by simp [refs, hi]
    simp only [Tri.ref] at q
    unfold I22
    rw [e2]
    generalize refs (l.map (·.2)) = rs at *
    generalize areaS (l.take i) = s at *
    generalize l[i].2 = x at *
    obtain ⟨_, q2⟩ := List.getElem?_eq_some_iff.1 q
    simp [xf22l0, hl, h3, h4, h5, hlen, hi, q2, u, hw, hwr, ix1, ix2, AVal.cells, Store.empty, Store.new, Store.put, Store.get, look, putL, setR, Store.only, Store.merge, touch, wrote, upTo, isIn, okRec, hits, capsOf, xcaps, stripL, AVal.strip, freeL, AVal.free, fillR, chunks, mkV, List.filter]
  · obtain ⟨hl, h3, h4, h5⟩ := h
    rw [List.take_length] at h3
    generalize refs (l.map (·.2)) = rs at *
    simp [xf22l0, hl, h3, h4, h5, hlen]
theorem u22 {t : List Rw} {w : AVal} (hT : TL t w) (ok : TOk t) (σ : Store) : Run X (.call 22) [.agg [w]] σ = some (.ret, [.int .i64 (areaS (tris t))], σ) := by
  have u88 := u88 hX hT ok
  have L := fun tm σ a b c d => out_of (loop22 hX (tris_ok ok) (tris_len ok) tm σ ⟨a, b, c, d⟩)
  have c0 : ((0 : Nat) : Int) = 0 := rfl
  have e0 : areaS ((tris t).take 0) = 0 := rfl
  simp only [c0, e0] at L
  refine call1 (a := .agg [w]) (v := .int .i64 (areaS (tris t))) hX.h22 (by simp [AVal.strip, stripL, AVal.free, freeL, hT.strip, hT.free]) (by decide) (fun tm hl h0 => ?_) rfl σ
  simp only [AVal.strip, stripL, hT.strip] at h0
  replace hl : tm.length = 36 := hl
  unfold Gives
  generalize refs ((tris t).map (·.2)) = rs at *
  generalize areaS (tris t) = s at *
  simp (maxDischargeDepth := 12) [xf22, hl, h0, u88, L, hT.one, hT.strip, hT.free, Store.empty, Store.new, Store.put, Store.get, look, putL, setR, Store.only, Store.merge, touch, wrote, upTo, isIn, okRec, hits, capsOf, xcaps, stripL, AVal.strip, freeL, AVal.free, fillR, chunks, mkV, List.filter]
end
end Go.Proofs.YtffacomibmgecaaGreat.Eng

/-
  MACHINE: the reference's check of tables; bounds.
-/
namespace Go.Proofs.YtffacomibmgecaaGreat.Eng
set_option linter.unusedSimpArgs false
set_option linter.unusedVariables false
section
variable {X : FuncId → Option XFunc} (hX : MtACode X)
include hX
omit hX in
def I21 (t : List Rw) (w : AVal) (i : Nat) (tm : List AVal) (σ : Store) : Prop := tm.length = 108 ∧ XOpd.eval tm (.t 1) = .ptr 0 0 ∧ XOpd.eval tm (.t 4) = .int .i64 i ∧ (∀ j, j < i → rowErr t j = 0) ∧ σ.get 0 = some (.cells [w])
set_option maxHeartbeats 2000000 in
theorem loop21 {t : List Rw} {w : AVal} (hT : TL t w) (h2 : 2 ≤ t.length) (hn : t.length ≤ 6) (hp : ∀ i, i < t.length → (nth t i).pts.length ≤ 1000000) (tm : List AVal) (σ : Store) (hI : I21 t w 0 tm σ) :
    Ends (Run X (.code (.loop xf21l0)) tm σ) (exF (.exit 0) .ret (fstP (fun i => decide (rowErr t i ≠ 0)) t.length 0)) (quF (fun tm σ => I21 t w t.length tm σ) (fun j tm σ => tm.length = 108 ∧ XOpd.eval tm (.t 2) = .int .i64 j ∧ XOpd.eval tm (.t 3) = .int .i64 (rowErr t j)) (fstP (fun i => decide (rowErr t i ≠ 0)) t.length 0)) := by
  have hx := hT.xlen
  have wl := hT.list (by omega)
  have ho := hT.one; have hs := hT.strip; have hf := hT.free
  have sr : stripL (rws t) = rws t := freeL_strip (rws_free hT.r)
  have fr : freeL (rws t) = true := rws_free hT.r
  refine loop_stop t.length (fun i => decide (rowErr t i ≠ 0)) (I21 t w) (by simp) (by simp) (fun i tm σ hi hp' h => ?_) (fun i tm σ hi hp' h => ?_) (fun tm σ h => ?_) t.length 0 (by omega) tm σ hI
  · obtain ⟨hl, h1, h4, hj, g0⟩ := h
    have u := u85 hX hT hi (by omega) (hp i hi)
    obtain ⟨q, hv⟩ := nth_at hT hi
    have hw : IntKind.i64.wrap ((i : Int) + 1) = ((i + 1 : Nat) : Int) := by rw [wrap_i64] <;> omega
    have hz : rowErr t i = 0 := by simpa using hp'
    have hj' : ∀ j, j < i + 1 → rowErr t j = 0 := fun j h => by
      by_cases e : j = i
      · rw [e]; exact hz
      · exact hj j (by omega)
    obtain ⟨e1, e2⟩ := rowErr_ok hz
    rw [e1] at u
    have key : Ends (Run X (.code xf21l0) tm σ) .normal fun tm' σ' => tm'.length = 108 ∧ XOpd.eval tm' (.t 1) = .ptr 0 0 ∧ XOpd.eval tm' (.t 4) = .int .i64 ((i + 1 : Nat) : Int) ∧ σ'.get 0 = some (.cells [w]) := by
      rw [wl] at u g0 hx ⊢
      by_cases c0 : i = 0
      · subst c0
        have z0 : ((0 : Nat) : Int) = 0 := rfl
        simp only [z0] at u
        simp [xf21l0, hl, h1, h4, g0, hx, hi, u, hw, wr1, sr, fr, AVal.cells, put_next, new_next, Store.get_new, Store.get_put, put_get, setR, only_get, merge_get', only_next, merge_next, upTo_self, upTo_one, merge_only, touch, wrote, isIn, okRec, hits, capsOf, xcaps, stripL, AVal.strip, freeL, AVal.free, fillR, chunks, mkV]
      · have e2 := e2 c0
        obtain ⟨qb, hvb⟩ := nth_at hT (i := i - 1) (by omega)
        have w1 : IntKind.i64.wrap ((i : Int) - 1) = ((i - 1 : Nat) : Int) := by rw [wrap_i64] <;> omega
        have r1 := (rowE_ok e1).1
        have r2 := (rowE_ok (rowErr_ok (hj (i - 1) (by omega))).1).1
        unfold ordE at e2
        have d1 : (nth t (i - 1)).op < (nth t i).op := by split at e2 <;> first | assumption | omega
        rw [if_pos d1] at e2
        have d2 : (nth t i).op - (nth t (i - 1)).op ≤ 20 := by split at e2 <;> first | assumption | omega
        have w2 : IntKind.i64.wrap ((nth t i).op - (nth t (i - 1)).op) = (nth t i).op - (nth t (i - 1)).op := by rw [wrap_i64] <;> omega
        have d3 : ¬ (nth t i).op ≤ (nth t (i - 1)).op := by omega
        have d4 : ¬ 20 < (nth t i).op - (nth t (i - 1)).op := by omega
        have c1 : 0 < (i : Int) := by omega
        have c2 : 0 < i := by omega
        generalize i - 1 = k at *
        generalize nth t i = r at *
        generalize nth t k = rb at *
        simp [xf21l0, hl, h1, h4, g0, hx, hi, u, hw, w1, w2, q, qb, d3, d4, c1, c2, sr, fr, AVal.cells, put_next, new_next, Store.get_new, Store.get_put, put_get, setR, only_get, merge_get', only_next, merge_next, upTo_self, upTo_one, merge_only, touch, wrote, isIn, okRec, hits, capsOf, xcaps, stripL, AVal.strip, freeL, AVal.free, fillR, chunks, mkV]
    obtain ⟨tm', σ', e, a1, a2, a3, a4⟩ := key
    exact ⟨tm', σ', e, a1, a2, a3, hj', a4⟩
  · obtain ⟨hl, h1, h4, hj, g0⟩ := h
    have u := u85 hX hT hi (by omega) (hp i hi)
    obtain ⟨q, hv⟩ := nth_at hT hi
    have hz : rowErr t i ≠ 0 := by simpa using hp'
    by_cases c : rowE (nth t 0).pts.length (nth t i).op (nth t i).pts = 0
    case neg =>
      have e : rowErr t i = rowE (nth t 0).pts.length (nth t i).op (nth t i).pts := by unfold rowErr; rw [if_pos c]
      rw [e]
      rw [wl] at u g0 hx
      generalize rowE (nth t 0).pts.length (nth t i).op (nth t i).pts = e' at *
      simp [xf21l0, hl, h1, h4, g0, hx, hi, u, c, sr, fr, AVal.cells, put_next, new_next, Store.get_new, Store.get_put, put_get, setR, only_get, merge_get', only_next, merge_next, upTo_self, upTo_one, merge_only, touch, wrote, isIn, okRec, hits, capsOf, xcaps, stripL, AVal.strip, freeL, AVal.free, fillR, chunks, mkV]
      done
    have e : rowErr t i = if i = 0 then 0 else ordE (nth t (i - 1)).op (nth t i).op := by unfold rowErr; rw [if_neg (by simp [c])]
    have c0 : i ≠ 0 := by rintro rfl; rw [e] at hz; simp at hz
    rw [if_neg c0] at e
    rw [e] at hz ⊢
    obtain ⟨qb, hvb⟩ := nth_at hT (i := i - 1) (by omega)
    have w1 : IntKind.i64.wrap ((i : Int) - 1) = ((i - 1 : Nat) : Int) := by rw [wrap_i64] <;> omega
    have r1 := (rowE_ok c).1
    have r2 := (rowE_ok (rowErr_ok (hj (i - 1) (by omega))).1).1
    have w2 : IntKind.i64.wrap ((nth t i).op - (nth t (i - 1)).op) = (nth t i).op - (nth t (i - 1)).op := by rw [wrap_i64] <;> omega
    have c1 : 0 < (i : Int) := by omega
    have c2 : 0 < i := by omega
    rw [c] at u
    unfold ordE at hz ⊢
    rw [wl] at u g0 hx
    generalize i - 1 = k at *
    generalize nth t i = r at *
    generalize nth t k = rb at *
    by_cases d1 : rb.op < r.op
    · have d3 : ¬ r.op ≤ rb.op := by omega
      rw [if_pos d1] at hz ⊢
      by_cases d2 : r.op - rb.op ≤ 20
      · rw [if_pos d2] at hz; exact absurd rfl hz
      · have d4 : 20 < r.op - rb.op := by omega
        rw [if_neg d2]
        simp [xf21l0, hl, h1, h4, g0, hx, hi, u, w1, w2, q, qb, d3, d4, c1, c2, sr, fr, AVal.cells, put_next, new_next, Store.get_new, Store.get_put, put_get, setR, only_get, merge_get', only_next, merge_next, upTo_self, upTo_one, merge_only, touch, wrote, isIn, okRec, hits, capsOf, xcaps, stripL, AVal.strip, freeL, AVal.free, fillR, chunks, mkV]
    · have d3 : r.op ≤ rb.op := by omega
      rw [if_neg d1]
      simp [xf21l0, hl, h1, h4, g0, hx, hi, u, w1, w2, q, qb, d3, c1, c2, sr, fr, AVal.cells, put_next, new_next, Store.get_new, Store.get_put, put_get, setR, only_get, merge_get', only_next, merge_next, upTo_self, upTo_one, merge_only, touch, wrote, isIn, okRec, hits, capsOf, xcaps, stripL, AVal.strip, freeL, AVal.free, fillR, chunks, mkV]
  · obtain ⟨hl, h1, h4, hj, g0⟩ := h
    have key : Ends (Run X (.code xf21l0) tm σ) (.exit 0) fun tm' σ' => tm'.length = 108 ∧ XOpd.eval tm' (.t 1) = .ptr 0 0 ∧ XOpd.eval tm' (.t 4) = .int .i64 t.length ∧ σ'.get 0 = some (.cells [w]) := by
      simp [xf21l0, hl, h1, h4, g0, hx, ho, AVal.cells, put_next, new_next, Store.get_new, Store.get_put, put_get, setR, only_get, merge_get', only_next, merge_next, upTo_self, upTo_one, merge_only, touch, wrote, isIn, okRec, hits, capsOf, xcaps, stripL, AVal.strip, freeL, AVal.free, fillR, chunks, mkV]
    obtain ⟨tm', σ', e, a1, a2, a3, a4⟩ := key
    exact ⟨tm', σ', e, a1, a2, a3, hj, a4⟩
/-! The triangles between two rows. -/
omit hX in
def triAt (l : List Tri) (k : Nat) : Tri := l.getD k ⟨⟨0, 0, 0⟩, ⟨0, 0, 0⟩, ⟨0, 0, 0⟩, 0, 0, 0⟩
omit hX in
def I21b (w : AVal) (l : List Tri) (i k : Nat) (tm : List AVal) (σ : Store) : Prop := tm.length = 108 ∧ XOpd.eval tm (.t 1) = .ptr 0 0 ∧ XOpd.eval tm (.t 6) = .int .i64 i ∧ XOpd.eval tm (.t 7) = .list 12 (refs l) none ∧ XOpd.eval tm (.t 8) = .int .i64 k ∧ σ.get 0 = some (.cells [w])
set_option maxHeartbeats 1000000 in
theorem loop21b {w : AVal} {l : List Tri} (hok : ∀ x, x ∈ l → TriOk x) (hn : l.length ≤ 1000) (i : Nat) (tm : List AVal) (σ : Store) (hI : I21b w l i 0 tm σ) :
    Ends (Run X (.code (.loop xf21l1)) tm σ) (exF (.exit 4) .ret (fstP (fun k => decide ((triAt l k).area ≤ 0)) l.length 0)) (quF (fun tm σ => tm.length = 108 ∧ XOpd.eval tm (.t 1) = .ptr 0 0 ∧ XOpd.eval tm (.t 6) = .int .i64 i ∧ σ.get 0 = some (.cells [w])) (fun j tm σ => tm.length = 108 ∧ XOpd.eval tm (.t 2) = .int .i64 i ∧ XOpd.eval tm (.t 3) = .int .i64 13) (fstP (fun k => decide ((triAt l k).area ≤ 0)) l.length 0)) := by
  have hlen : (refs l).length = l.length := by simp [refs]
  have hat : ∀ k, k < l.length → (∃ h : k < (refs l).length, (refs l)[k] = (triAt l k).ref) ∧ triAt l k ∈ l := fun k hk => by
    have e : triAt l k = l[k] := by unfold triAt; rw [List.getD_eq_getElem?_getD, List.getElem?_eq_getElem hk]; rfl
    rw [e]
    exact ⟨⟨by omega, by simp [refs]⟩, List.getElem_mem hk⟩
  refine loop_stop l.length (fun k => decide ((triAt l k).area ≤ 0)) (I21b w l i) (by simp) (by simp) (fun k tm σ hk hp h => ?_) (fun k tm σ hk hp h => ?_) (fun tm σ h => ?_) l.length 0 (by omega) tm σ hI
  · obtain ⟨hl, h1, h6, h7, h8, g0⟩ := h
    obtain ⟨⟨_, q⟩, hm⟩ := hat k hk
    obtain ⟨k1, k2, k3⟩ := hok _ hm
    have u := u87 hX (area_ok k1 k2 k3)
    have hw : IntKind.i64.wrap ((k : Int) + 1) = ((k + 1 : Nat) : Int) := by rw [wrap_i64] <;> omega
    have hp : ¬ area (triAt l k).a (triAt l k).b (triAt l k).c ≤ 0 := of_decide_eq_false hp
    simp only [Tri.ref] at q
    unfold I21b
    generalize triAt l k = x at *
    generalize refs l = rs at *
    simp [xf21l1, hl, h1, h6, h7, h8, g0, hlen, hk, q, u, hp, hw, ix1, ix2, AVal.cells, put_next, new_next, Store.get_new, Store.get_put, put_get, setR, only_get, merge_get', only_next, merge_next, upTo_self, upTo_one, merge_only, touch, wrote, isIn, okRec, hits, capsOf, xcaps, stripL, AVal.strip, freeL, AVal.free, fillR, chunks, mkV]
  · obtain ⟨hl, h1, h6, h7, h8, g0⟩ := h
    obtain ⟨⟨_, q⟩, hm⟩ := hat k hk
    obtain ⟨k1, k2, k3⟩ := hok _ hm
    have u := u87 hX (area_ok k1 k2 k3)
    have hp : area (triAt l k).a (triAt l k).b (triAt l k).c ≤ 0 := of_decide_eq_true hp
    simp only [Tri.ref] at q
    generalize triAt l k = x at *
    generalize refs l = rs at *
    simp [xf21l1, hl, h1, h6, h7, h8, g0, hlen, hk, q, u, hp, ix1, ix2, AVal.cells, put_next, new_next, Store.get_new, Store.get_put, put_get, setR, only_get, merge_get', only_next, merge_next, upTo_self, upTo_one, merge_only, touch, wrote, isIn, okRec, hits, capsOf, xcaps, stripL, AVal.strip, freeL, AVal.free, fillR, chunks, mkV]
  · obtain ⟨hl, h1, h6, h7, h8, g0⟩ := h
    generalize refs l = rs at *
    simp [xf21l1, hl, h1, h6, h7, h8, g0, hlen]
omit hX in
theorem clash_fst (t : List Rw) (i : Nat) : clashAt t i = match fstP (fun k => decide ((triAt (trisAt t i) k).area ≤ 0)) (trisAt t i).length 0 with
    | some _ => 13
    | none => 0 := by
  unfold clashAt
  generalize trisAt t i = l
  cases hf : fstP (fun k => decide ((triAt l k).area ≤ 0)) l.length 0 with
  | some k =>
    obtain ⟨_, hk, hp, _⟩ := fstP_some hf
    have e : triAt l k = l[k]'(by omega) := by unfold triAt; rw [List.getD_eq_getElem?_getD, List.getElem?_eq_getElem (by omega)]; rfl
    rw [e] at hp
    have : l.any (fun x => decide (x.area ≤ 0)) = true := List.any_eq_true.2 ⟨_, List.getElem_mem (by omega), hp⟩
    simp only [this, if_true]
  | none =>
    have : l.any (fun x => decide (x.area ≤ 0)) = false := by
      rw [List.any_eq_false]
      intro x hx
      obtain ⟨k, hk, rfl⟩ := List.getElem_of_mem hx
      have := fstP_none hf k (by omega) (by omega)
      have e : triAt l k = l[k] := by unfold triAt; rw [List.getD_eq_getElem?_getD, List.getElem?_eq_getElem hk]; rfl
      rw [e] at this
      simpa using this
    simp only [this, Bool.false_eq_true, if_false]
omit hX in
def I21c (w : AVal) (i : Nat) (tm : List AVal) (σ : Store) : Prop := tm.length = 108 ∧ XOpd.eval tm (.t 1) = .ptr 0 0 ∧ XOpd.eval tm (.t 6) = .int .i64 i ∧ σ.get 0 = some (.cells [w])
set_option maxHeartbeats 1000000 in
theorem loop21c {t : List Rw} {w : AVal} (hT : TL t w) (ok : TOk t) (tm : List AVal) (σ : Store) (hI : I21c w 0 tm σ) :
    Ends (Run X (.code (.loop xf21l2)) tm σ) (exF (.exit 2) .ret (fstP (fun i => decide (clashAt t i ≠ 0)) (t.length - 1) 0)) (quF (fun tm σ => tm.length = 108) (fun j tm σ => tm.length = 108 ∧ XOpd.eval tm (.t 2) = .int .i64 j ∧ XOpd.eval tm (.t 3) = .int .i64 13) (fstP (fun i => decide (clashAt t i ≠ 0)) (t.length - 1) 0)) := by
  have t2 := ok.two; have t6 := ok.six
  have hx := hT.xlen
  have wl := hT.list (by omega)
  have ho := hT.one; have hs := hT.strip; have hf := hT.free
  have hlen : ∀ i, i < t.length → (trisAt t i).length ≤ 1000 := fun i hi => by
    have := ok.len i hi; have := ok.p6
    simp [trisAt, trisB_len]; omega
  have hall : ∀ i, i + 1 < t.length → ∀ x, x ∈ trisAt t i → TriOk x := fun i hi x hx => by
    have l0 := ok.len i (by omega); have l1 := ok.len (i + 1) (by omega); have p2 := ok.p2
    exact trisB_ok (ok.pt i (by omega)) (ok.pt (i + 1) (by omega)) (by omega) _ 0 (by omega) x hx
  refine loop_stop (t.length - 1) (fun i => decide (clashAt t i ≠ 0)) (I21c w) (by simp) (by simp) (fun i tm σ hi hp h => ?_) (fun i tm σ hi hp h => ?_) (fun tm σ h => ?_) (t.length - 1) 0 (by omega) tm σ hI
  · obtain ⟨hl, h1, h6, g0⟩ := h
    have u := u86' hX hT ok (i := i) (by omega)
    have hw : IntKind.i64.wrap ((i : Int) + 1) = ((i + 1 : Nat) : Int) := by rw [wrap_i64] <;> omega
    have hlt : (i : Int) + 1 < (t.length : Int) := by omega
    have hz : clashAt t i = 0 := by simpa using hp
    rw [clash_fst] at hz
    have L := fun tm a b c d e => out_of (loop21b hX (w := w) (hall i (by omega)) (hlen i (by omega)) i tm σ ⟨a, b, c, d, e, g0⟩)
    cases hf' : fstP (fun k => decide ((triAt (trisAt t i) k).area ≤ 0)) (trisAt t i).length 0 with
    | some k => rw [hf'] at hz; simp at hz
    | none =>
      have c0 : ((0 : Nat) : Int) = 0 := rfl
      simp only [hf', exF, quF, c0] at L
      have hne := refs (trisAt t i)
      unfold I21c
      generalize refs (trisAt t i) = rs at *
      simp (maxDischargeDepth := 16) [xf21l2, hl, h1, h6, g0, hx, hw, hlt, u, L, ho, hs, hf, AVal.cells, put_next, new_next, Store.get_new, Store.get_put, put_get, setR, only_get, merge_get', only_next, merge_next, upTo_self, upTo_one, merge_only, touch, wrote, isIn, okRec, hits, capsOf, xcaps, stripL, AVal.strip, freeL, AVal.free, fillR, chunks, mkV]
  · obtain ⟨hl, h1, h6, g0⟩ := h
    have u := u86' hX hT ok (i := i) (by omega)
    have hw : IntKind.i64.wrap ((i : Int) + 1) = ((i + 1 : Nat) : Int) := by rw [wrap_i64] <;> omega
    have hlt : (i : Int) + 1 < (t.length : Int) := by omega
    have hz : clashAt t i ≠ 0 := by simpa using hp
    rw [clash_fst] at hz
    have L := fun tm a b c d e => out_of (loop21b hX (w := w) (hall i (by omega)) (hlen i (by omega)) i tm σ ⟨a, b, c, d, e, g0⟩)
    cases hf' : fstP (fun k => decide ((triAt (trisAt t i) k).area ≤ 0)) (trisAt t i).length 0 with
    | none => rw [hf'] at hz; simp at hz
    | some k =>
      have c0 : ((0 : Nat) : Int) = 0 := rfl
      simp only [hf', exF, quF, c0] at L
      generalize refs (trisAt t i) = rs at *
      simp (maxDischargeDepth := 16) [xf21l2, hl, h1, h6, g0, hx, hw, hlt, u, L, ho, hs, hf, AVal.cells, put_next, new_next, Store.get_new, Store.get_put, put_get, setR, only_get, merge_get', only_next, merge_next, upTo_self, upTo_one, merge_only, touch, wrote, isIn, okRec, hits, capsOf, xcaps, stripL, AVal.strip, freeL, AVal.free, fillR, chunks, mkV]
  · obtain ⟨hl, h1, h6, g0⟩ := h
    have hw : IntKind.i64.wrap (((t.length - 1 : Nat) : Int) + 1) = (t.length : Int) := by rw [wrap_i64] <;> omega
    generalize ((t.length - 1 : Nat) : Int) = z at *
    simp [xf21l2, hl, h1, h6, g0, hx, hw, ho, AVal.cells, put_next, new_next, Store.get_new, Store.get_put, put_get, setR, only_get, merge_get', only_next, merge_next, upTo_self, upTo_one, merge_only, touch, wrote, isIn, okRec, hits, capsOf, xcaps, stripL, AVal.strip, freeL, AVal.free, fillR, chunks, mkV]
set_option maxHeartbeats 1000000 in
theorem u21 {t : List Rw} {w : AVal} (hT : TL t w) (hn : t.length ≤ 1000000) (hp : ∀ i, i < t.length → (nth t i).pts.length ≤ 1000000) (σ : Store) : Run X (.call 21) [.agg [w]] σ = some (.ret, [.tup [.int .i64 (chkT t).1, .int .i64 (chkT t).2]], σ) := by
  have hx := hT.xlen
  have ho := hT.one; have hs := hT.strip; have hf := hT.free
  have key := call1 (X := X) (a := .agg [w]) (v := .tup [.int .i64 (chkT t).1, .int .i64 (chkT t).2]) hX.h21 (by simp [AVal.strip, stripL, AVal.free, freeL, hT.strip, hT.free]) (by decide) (fun tm hl h0 => ?_) rfl σ
  · exact key
  simp only [AVal.strip, stripL, hT.strip] at h0
  replace hl : tm.length = 108 := hl
  unfold Gives
  by_cases c2 : t.length < 2
  · have e : chkT t = (0, 10) := by unfold chkT; rw [if_pos c2]
    have d : (t.length : Int) < 2 := by omega
    rw [e]
    simp [xf21, hl, h0, hx, ho, hs, hf, d, xresult, xrets, Store.empty, Store.new, Store.put, Store.get, look, putL, setR, Store.only, Store.merge, touch, wrote, upTo, isIn, okRec, hits, capsOf, xcaps, stripL, AVal.strip, freeL, AVal.free, fillR, chunks, mkV, List.filter]
  by_cases c6 : 6 < t.length
  · have e : chkT t = (0, 8) := by unfold chkT; rw [if_neg c2, if_pos c6]
    have d : ¬ (t.length : Int) < 2 := by omega
    have d' : 6 < (t.length : Int) := by omega
    rw [e]
    simp [xf21, hl, h0, hx, ho, hs, hf, d, d', xresult, xrets, Store.empty, Store.new, Store.put, Store.get, look, putL, setR, Store.only, Store.merge, touch, wrote, upTo, isIn, okRec, hits, capsOf, xcaps, stripL, AVal.strip, freeL, AVal.free, fillR, chunks, mkV, List.filter]
  have d : ¬ (t.length : Int) < 2 := by omega
  have d' : ¬ 6 < (t.length : Int) := by omega
  rw [Run_cut 3]
  have e1 : XCode.cutB 3 xf21.body = .block 0 (.loop xf21l0) := rfl
  rw [e1]
  have kA : Ends (Run X (.code (XCode.cutP 3 xf21.body)) tm Store.empty) .normal fun tm' τ => tm'.length = 108 ∧ XOpd.eval tm' (.t 1) = .ptr 0 0 ∧ XOpd.eval tm' (.t 4) = .int .i64 ((0 : Nat) : Int) ∧ τ.get 0 = some (.cells [w]) := by
    simp [xf21, XCode.cutP, hl, h0, hx, ho, hs, hf, d, d', Store.empty, Store.new, Store.put, Store.get, look, putL, setR, Store.only, Store.merge, touch, wrote, upTo, isIn, okRec, hits, capsOf, xcaps, stripL, AVal.strip, freeL, AVal.free, fillR, chunks, mkV, List.filter]
  obtain ⟨o1, a1, a2, a3, a4⟩ := out_of kA
  rw [o1, thenC_normal, Run_block]
  generalize outT X _ tm Store.empty = tm1 at *
  generalize outS X _ tm Store.empty = σ1 at *
  obtain ⟨q1, q2⟩ := out_of (loop21 hX hT (by omega) (by omega) hp tm1 σ1 ⟨a1, a2, a3, fun j hj => absurd hj (Nat.not_lt_zero _), a4⟩)
  rw [q1]
  generalize outT X (.loop xf21l0) tm1 σ1 = tm2 at *
  generalize outS X (.loop xf21l0) tm1 σ1 = σ2 at *
  have ef := fstIx_fst (rowErr t) t.length 0
  cases hf' : fstP (fun i => decide (rowErr t i ≠ 0)) t.length 0 with
  | some j =>
    rw [hf'] at ef q2
    have hj : rowErr t j ≠ 0 := of_decide_eq_true (fstP_some hf').2.2.1
    have e : chkT t = (j, rowErr t j) := by unfold chkT; rw [if_neg c2, if_neg c6, ef]; simp [hj]
    rw [e]
    obtain ⟨l, x2, x3⟩ := q2
    simp [exF, xf21, XCode.cutR, l, x2, x3, xresult, xrets]
  | none =>
    rw [hf'] at ef q2
    have ok : TOk t := rowsOk (by omega) (by omega) (by rw [ef])
    have e : chkT t = fstIx (clashAt t) (t.length - 1) 0 := by unfold chkT; rw [if_neg c2, if_neg c6, ef]; simp
    rw [e, fstIx_fst]
    obtain ⟨l, x1, _, _, g0⟩ := q2
    simp only [exF, blockC_exit]
    rw [thenC_normal]
    have e2 : XCode.cutR 3 xf21.body = .seq (.seq (XCode.cutR 3 xf21.body).fst.fst (.block 2 (.loop xf21l2))) (XCode.cutR 3 xf21.body).snd := rfl
    rw [e2, Run_seq, Run_seq]
    have kB : Ends (Run X (.code (XCode.cutR 3 xf21.body).fst.fst) tm2 σ2) .normal fun tm' τ => I21c w 0 tm' τ := by
      simp [xf21, XCode.cutR, XCode.fst, I21c, l, x1, g0]
    obtain ⟨r1, r2⟩ := out_of kB
    rw [r1, thenC_normal, Run_block]
    generalize outT X (XCode.cutR 3 xf21.body).fst.fst tm2 σ2 = tm3 at *
    generalize outS X (XCode.cutR 3 xf21.body).fst.fst tm2 σ2 = σ3 at *
    obtain ⟨s1, s2⟩ := out_of (loop21c hX hT ok tm3 σ3 r2)
    rw [s1]
    generalize outT X (.loop xf21l2) tm3 σ3 = tm4 at *
    generalize outS X (.loop xf21l2) tm3 σ3 = σ4 at *
    cases hf2 : fstP (fun i => decide (clashAt t i ≠ 0)) (t.length - 1) 0 with
    | some j =>
      rw [hf2] at s2
      have hj : clashAt t j ≠ 0 := of_decide_eq_true (fstP_some hf2).2.2.1
      have e13 : clashAt t j = 13 := by
        have := clash_fst t j
        split at this
        · exact this
        · exact absurd this hj
      obtain ⟨l', y2, y3⟩ := s2
      simp [exF, xf21, XCode.cutR, XCode.snd, l', y2, y3, e13, xresult, xrets]
    | none =>
      rw [hf2] at s2
      have l' : tm4.length = 108 := s2
      simp [exF, xf21, XCode.cutR, XCode.snd, l', xresult, xrets]
end
end Go.Proofs.YtffacomibmgecaaGreat.Eng

/-
  MACHINE: the reference's bounds.
-/
namespace Go.Proofs.YtffacomibmgecaaGreat.Eng
set_option linter.unusedSimpArgs false
set_option linter.unusedVariables false
section
variable {X : FuncId → Option XFunc} (hX : MtACode X)
include hX
omit hX in
def I23a (w : AVal) (l : List Pt) (j : Nat) (x : Bd) (i : Nat) (tm : List AVal) (σ : Store) : Prop := tm.length = 90 ∧ XOpd.eval tm (.t 1) = .ptr 0 0 ∧ XOpd.eval tm (.t 2) = .ptr 1 0 ∧ XOpd.eval tm (.t 3) = .ptr 2 0 ∧ XOpd.eval tm (.t 4) = .ptr 3 0 ∧ XOpd.eval tm (.t 5) = .int .i64 j ∧ XOpd.eval tm (.t 6) = .int .i64 i ∧ σ.get 0 = some (.cells [w]) ∧ σ.get 1 = some (.cells [.int .i64 0, .int .i64 0, .int .i64 0, .int .i64 0, .int .i64 0, .int .i64 0]) ∧ (∃ a b c, σ.get 2 = some (.cells [.int .i64 a, .int .i64 b, .int .i64 c])) ∧ σ.get 3 = some (.cells (bdP l x i).cells) ∧ 4 ≤ σ.next
omit hX in
set_option maxHeartbeats 2000000 in
theorem loop23a {t : List Rw} {w : AVal} (hT : TL t w) {j : Nat} (hj : j < t.length) (hn : (nth t j).pts.length ≤ 1000000) (x : Bd) (tm : List AVal) (σ : Store) (hI : I23a w (nth t j).pts j x 0 tm σ) :
    Ends (Run X (.code (.loop xf23l1)) tm σ) (.exit 2) fun tm σ => I23a w (nth t j).pts j x (nth t j).pts.length tm σ := by
  obtain ⟨q, hv⟩ := nth_at hT hj
  have hx := hv.xlen
  have wl := hT.list (by omega)
  refine loop_all (nth t j).pts.length (I23a w (nth t j).pts j x) (by simp) (fun i tm σ hi h => ?_) (fun tm σ h => ?_) tm σ hI
  · obtain ⟨hl, h1, h2, h3, h4, h5, h6, g0, g1, ⟨a, b, c, g2⟩, g3, nx⟩ := h
    obtain ⟨N, hN⟩ : ∃ N, σ.next = N + 4 := ⟨σ.next - 4, by omega⟩
    have qk := pat_at hi
    have hw : IntKind.i64.wrap ((i : Int) + 1) = ((i + 1 : Nat) : Int) := by rw [wrap_i64] <;> omega
    have e : bdP (nth t j).pts x (i + 1) = bd1 (bdP (nth t j).pts x i) (pat (nth t j).pts i) := rfl
    rw [hv.list (by omega)] at q hx
    unfold I23a
    rw [e]
    generalize bdP (nth t j).pts x i = bb at *
    generalize pat (nth t j).pts i = p at *
    generalize nth t j = r at *
    simp only [Bd.cells] at g3
    rw [wl] at g0 ⊢
    simp [xf23l1, xf23l0, Run_loop, hl, h1, h2, h3, h4, h5, h6, g0, g1, g2, g3, hN, hi, q, qk, hx, hw, bd1, Bd.cells, mn, mx2, ix1, ix2, wr1, wr2, wr3, AVal.cells, put_next, new_next, Store.get_new, Store.get_put, put_get, setR, only_get, merge_get', only_next, merge_next, upTo_self, upTo_one, merge_only, touch, wrote, isIn, okRec, hits, capsOf, xcaps, stripL, AVal.strip, freeL, AVal.free, fillR, chunks, mkV]
  · unfold I23a at h ⊢
    generalize bdP (nth t j).pts x (nth t j).pts.length = bb at *
    generalize nth t j = r at *
    obtain ⟨hl, h1, h2, h3, h4, h5, h6, g0, g1, ⟨a, b, c, g2⟩, g3, nx⟩ := h
    rw [wl] at g0 ⊢
    simp [xf23l1, hl, h1, h2, h3, h4, h5, h6, g0, g1, g2, g3, nx, hj, q, hx, AVal.cells, put_next, new_next, Store.get_new, Store.get_put, put_get, setR, only_get, merge_get', only_next, merge_next, upTo_self, upTo_one, merge_only, touch, wrote, isIn, okRec, hits, capsOf, xcaps, stripL, AVal.strip, freeL, AVal.free, fillR, chunks, mkV]
omit hX in
def I23b (w : AVal) (t : List Rw) (x : Bd) (j : Nat) (tm : List AVal) (σ : Store) : Prop := tm.length = 90 ∧ XOpd.eval tm (.t 1) = .ptr 0 0 ∧ XOpd.eval tm (.t 2) = .ptr 1 0 ∧ XOpd.eval tm (.t 3) = .ptr 2 0 ∧ XOpd.eval tm (.t 4) = .ptr 3 0 ∧ XOpd.eval tm (.t 5) = .int .i64 j ∧ σ.get 0 = some (.cells [w]) ∧ σ.get 1 = some (.cells [.int .i64 0, .int .i64 0, .int .i64 0, .int .i64 0, .int .i64 0, .int .i64 0]) ∧ (∃ a b c, σ.get 2 = some (.cells [.int .i64 a, .int .i64 b, .int .i64 c])) ∧ σ.get 3 = some (.cells (bdR t x j).cells) ∧ 4 ≤ σ.next
omit hX in
set_option maxHeartbeats 1000000 in
theorem loop23b {t : List Rw} {w : AVal} (hT : TL t w) (hn : t.length ≤ 1000000) (hp : ∀ i, i < t.length → (nth t i).pts.length ≤ 1000000) (x : Bd) (tm : List AVal) (σ : Store) (hI : I23b w t x 0 tm σ) :
    Ends (Run X (.code (.loop xf23l2)) tm σ) (.exit 0) fun tm σ => I23b w t x t.length tm σ := by
  have hx := hT.xlen
  have ho := hT.one
  refine loop_all t.length (I23b w t x) (by simp) (fun j tm σ hj h => ?_) (fun tm σ h => ?_) tm σ hI
  · obtain ⟨hl, h1, h2, h3, h4, h5, g0, g1, g2, g3, nx⟩ := h
    have hw : IntKind.i64.wrap ((j : Int) + 1) = ((j + 1 : Nat) : Int) := by rw [wrap_i64] <;> omega
    have L := fun tm a b c d e f g => out_of (loop23a (X := X) hT hj (hp j hj) (bdR t x j) tm σ ⟨a, b, c, d, e, f, g, g0, g1, g2, g3, nx⟩)
    have e : bdR t x (j + 1) = bdP (nth t j).pts (bdR t x j) (nth t j).pts.length := rfl
    have c0 : ((0 : Nat) : Int) = 0 := rfl
    simp only [I23a, c0] at L
    unfold I23b
    rw [e]
    generalize bdP (nth t j).pts (bdR t x j) (nth t j).pts.length = bb at *
    have wl := hT.list (by omega)
    rw [wl] at g0 hx L ⊢
    simp (maxDischargeDepth := 20) [xf23l2, hl, h1, h2, h3, h4, h5, g0, hj, hx, hw, L, AVal.cells, put_next, new_next, Store.get_new, Store.get_put, put_get, setR, only_get, merge_get', only_next, merge_next, upTo_self, upTo_one, merge_only, touch, wrote, isIn, okRec, hits, capsOf, xcaps, stripL, AVal.strip, freeL, AVal.free, fillR, chunks, mkV]
  · unfold I23b at h ⊢
    generalize bdR t x t.length = bb at *
    obtain ⟨hl, h1, h2, h3, h4, h5, g0, g1, ⟨a, b, c, g2⟩, g3, nx⟩ := h
    simp [xf23l2, hl, h1, h2, h3, h4, h5, g0, g1, g2, g3, nx, hx, ho, AVal.cells, put_next, new_next, Store.get_new, Store.get_put, put_get, setR, only_get, merge_get', only_next, merge_next, upTo_self, upTo_one, merge_only, touch, wrote, isIn, okRec, hits, capsOf, xcaps, stripL, AVal.strip, freeL, AVal.free, fillR, chunks, mkV]
set_option maxHeartbeats 1000000 in
theorem u23 {t : List Rw} {w : AVal} (hT : TL t w) (ok : TOk t) (σ : Store) : Run X (.call 23) [.agg [w]] σ = some (.ret, [.agg (bnds t).cells], σ) := by
  have t2 := ok.two; have t6 := ok.six; have p2 := ok.p2
  have wl := hT.list (by omega)
  obtain ⟨q, hv⟩ := nth_at hT (i := 0) (by omega)
  have vl := hv.list (by omega)
  have qk := pat_at (l := (nth t 0).pts) (i := 0) (by omega)
  have pm : ∀ i, i < t.length → (nth t i).pts.length ≤ 1000000 := fun i hi => by have := ok.len i hi; have := ok.p6; omega
  refine call1 (a := .agg [w]) (v := .agg (bnds t).cells) hX.h23 (by simp [AVal.strip, stripL, AVal.free, freeL, hT.strip, hT.free]) (by decide) (fun tm hl h0 => ?_) rfl σ
  simp only [AVal.strip, stripL, hT.strip] at h0
  replace hl : tm.length = 90 := hl
  unfold Gives
  rw [Run_cut 3]
  have e1 : XCode.cutB 3 xf23.body = .block 0 (.loop xf23l2) := rfl
  rw [e1]
  have kA : Ends (Run X (.code (XCode.cutP 3 xf23.body)) tm Store.empty) .normal fun tm σ => I23b w t (bd0 (pat (nth t 0).pts 0)) 0 tm σ := by
    have eb : bdR t (bd0 (pat (nth t 0).pts 0)) 0 = bd0 (pat (nth t 0).pts 0) := rfl
    have sr : stripL (rws t) = rws t := freeL_strip (rws_free hT.r)
    have fr : freeL (rws t) = true := rws_free hT.r
    unfold I23b
    rw [eb]
    generalize pat (nth t 0).pts 0 = p at *
    rw [vl] at q
    rw [wl] at h0 ⊢
    simp [xf23, XCode.cutP, hl, h0, q, qk, bd0, Bd.cells, sr, fr, xload, encs_strip, encs_free, AVal.cells, Store.empty, Store.new, Store.put, Store.get, look, putL, setR, Store.only, Store.merge, touch, wrote, upTo, isIn, okRec, hits, capsOf, xcaps, stripL, AVal.strip, freeL, AVal.free, fillR, chunks, mkV, List.filter]
  obtain ⟨o1, o2⟩ := out_of kA
  rw [o1, thenC_normal, Run_block]
  generalize outT X _ tm Store.empty = tm1 at *
  generalize outS X _ tm Store.empty = σ1 at *
  obtain ⟨q1, q2⟩ := out_of (loop23b (X := X) hT (by omega) pm _ tm1 σ1 o2)
  rw [q1]
  generalize outT X (.loop xf23l2) tm1 σ1 = tm2 at *
  generalize outS X (.loop xf23l2) tm1 σ1 = σ2 at *
  have eb : bnds t = bdR t (bd0 (pat (nth t 0).pts 0)) t.length := rfl
  rw [eb]
  unfold I23b at q2
  generalize bdR t (bd0 (pat (nth t 0).pts 0)) t.length = b at *
  obtain ⟨l, _, x2, _, x4, _, _, g1, _, g3, _⟩ := q2
  simp only [Bd.cells] at g3
  simp [xf23, XCode.cutR, l, x2, x4, g1, g3, Bd.cells, xresult, xrets, xload, put_next, new_next, Store.get_new, Store.get_put, put_get, setR, only_get, merge_get', only_next, merge_next, upTo_self, upTo_one, merge_only, touch, wrote, isIn, okRec, hits, capsOf, xcaps, stripL, AVal.strip, freeL, AVal.free, fillR, chunks, mkV]
end
end Go.Proofs.YtffacomibmgecaaGreat.Eng

/-
  MACHINE: the law of tables.
-/
namespace Go.Proofs.YtffacomibmgecaaGreat.Eng
set_option linter.unusedSimpArgs false
set_option linter.unusedVariables false
theorem nth_cp (t : List Rw) (i : Nat) : (nth (t.map Rw.cp) i).op = (nth t i).op ∧ (nth (t.map Rw.cp) i).pts = (nth t i).pts := by
  unfold nth
  rw [List.getD_eq_getElem?_getD, List.getD_eq_getElem?_getD, List.getElem?_map]
  cases t[i]? <;> exact ⟨rfl, rfl⟩
theorem rowErr_cp (t : List Rw) : rowErr (t.map Rw.cp) = rowErr t := by
  funext i
  unfold rowErr
  rw [(nth_cp t i).1, (nth_cp t i).2, (nth_cp t 0).2, (nth_cp t (i - 1)).1]
theorem trisB_cong {a b a' b' : Rw} (h1 : a'.op = a.op) (h2 : a'.pts = a.pts) (h3 : b'.op = b.op) (h4 : b'.pts = b.pts) : ∀ n k, trisB a' b' n k = trisB a b n k
  | 0, k => rfl
  | n + 1, k => by rw [trisB, trisB, trisB_cong h1 h2 h3 h4 n (k + 1)]; unfold tri1 tri2; rw [h1, h2, h3, h4]
theorem trisAt_cp (t : List Rw) (i : Nat) : trisAt (t.map Rw.cp) i = trisAt t i := by
  unfold trisAt
  rw [(nth_cp t i).2]
  exact trisB_cong (nth_cp t i).1 (nth_cp t i).2 (nth_cp t (i + 1)).1 (nth_cp t (i + 1)).2 _ _
theorem trisF_cp (t : List Rw) : ∀ n i, trisF (t.map Rw.cp) n i = trisF t n i
  | 0, i => rfl
  | n + 1, i => by rw [trisF, trisF, trisAt_cp, trisF_cp t n (i + 1)]
theorem tris_cp (t : List Rw) : tris (t.map Rw.cp) = tris t := by unfold tris; rw [List.length_map, trisF_cp]
theorem chk_cp (t : List Rw) : chkT (t.map Rw.cp) = chkT t := by
  have : clashAt (t.map Rw.cp) = clashAt t := by funext i; unfold clashAt; rw [trisAt_cp]
  unfold chkT
  rw [List.length_map, rowErr_cp, this]
theorem bdR_cp (t : List Rw) (x : Bd) : ∀ n, bdR (t.map Rw.cp) x n = bdR t x n
  | 0 => rfl
  | n + 1 => by rw [bdR, bdR, bdR_cp t x n, (nth_cp t n).2]
theorem bnds_cp (t : List Rw) : bnds (t.map Rw.cp) = bnds t := by
  unfold bnds
  rw [List.length_map, bdR_cp, (nth_cp t 0).2]
section
variable {X : FuncId → Option XFunc} (hX : MtACode X)
include hX
set_option maxHeartbeats 4000000 in
theorem u3 (hA : ∀ σ, Run X (.call 15) [] σ = some (.ret, [.bool true], σ)) {t : List Rw} {w : AVal} (hT : TL t w) (σ : Store) : Run X (.call 3) [.agg [w]] σ = some (.ret, [.bool true], σ) := by
  have u16 := u16 hX hT
  have ho := hT.one; have hs := hT.strip; have hf := hT.free
  refine call1 (a := .agg [w]) (v := .bool true) hX.h3 (by simp [AVal.strip, stripL, AVal.free, freeL, hT.strip, hT.free]) (by decide) (fun tm hl h0 => ?_) rfl σ
  simp only [AVal.strip, stripL, hT.strip] at h0
  replace hl : tm.length = 84 := hl
  unfold Gives
  cases cf : few t
  · rw [cf] at u16
    simp [xf3, hl, h0, hA, u16, ho, hs, hf, Store.empty, Store.new, Store.put, Store.get, look, putL, setR, Store.only, Store.merge, touch, wrote, upTo, isIn, okRec, hits, capsOf, xcaps, stripL, AVal.strip, freeL, AVal.free, fillR, chunks, mkV, List.filter]
  rw [cf] at u16
  obtain ⟨n8, p8⟩ := few_ok cf
  have u18 := u18 hX hT (by omega) (fun i hi => by have := p8 i hi; omega)
  have c := cp_tl (t := t)
  have hp' : ∀ r, r ∈ t.map Rw.cp → r.pts.length ≤ 1000000 := fun r hr => by
    obtain ⟨s, hs, rfl⟩ := List.mem_map.1 hr
    obtain ⟨i, hi, rfl⟩ := List.getElem_of_mem hs
    have := p8 i hi
    have e : nth t i = t[i] := by unfold nth; rw [List.getD_eq_getElem?_getD, List.getElem?_eq_getElem hi]; rfl
    rw [e] at this
    show t[i].pts.length ≤ 1000000
    omega
  have u17 := u17 hX c (by simp; omega) hp'
  have u19 := u19 hX c (by simp; omega) hp'
  have u20 := u20 hX c (by simp; omega) hp'
  have u21 := u21 hX hT (by omega) (fun i hi => by have := p8 i hi; omega)
  rw [chk_cp] at u17 u19 u20
  rw [tris_cp] at u19
  rw [bnds_cp] at u20
  have co := c.one; have cs := c.strip; have cfr := c.free
  generalize lstV 2 (rws (t.map Rw.cp)) = v at *
  by_cases cd : (chkT t).2 = 0
  · have ok := chk_ok cd
    have u22 := u22 hX hT ok
    have u23 := u23 hX hT ok
    simp only [cd, if_true] at u17 u19 u20 u21
    generalize (chkT t).1 = k at *
    generalize areaS (tris t) = s at *
    generalize bnds t = b at *
    simp only [Bd.cells] at u20 u23
    simp [xf3, hl, h0, hA, u16, u18, u17, u19, u20, u21, u22, u23, ho, hs, hf, co, cs, cfr, AVal.cells, Store.empty, Store.new, Store.put, Store.get, look, putL, setR, Store.only, Store.merge, touch, wrote, upTo, isIn, okRec, hits, capsOf, xcaps, stripL, AVal.strip, freeL, AVal.free, fillR, chunks, mkV, List.filter]
  · simp only [cd, if_false] at u19 u20
    generalize (chkT t).1 = k at *
    generalize (chkT t).2 = d at *
    simp only [Bd.cells, bdz] at u20
    simp [xf3, hl, h0, hA, u16, u18, u17, u19, u20, u21, cd, ho, hs, hf, co, cs, cfr, AVal.cells, Store.empty, Store.new, Store.put, Store.get, look, putL, setR, Store.only, Store.merge, touch, wrote, upTo, isIn, okRec, hits, capsOf, xcaps, stripL, AVal.strip, freeL, AVal.free, fillR, chunks, mkV, List.filter]
end
end Go.Proofs.YtffacomibmgecaaGreat.Eng
