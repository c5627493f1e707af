/-
  LAKE: the seasons' functions, run.
-/
import Derived.Test.YtbgjmclpahganaaGreatCode1
import Derived.Test.YtbgjmclpahganaaGreatEngZ
namespace Go.Proofs.YtbgjmclpahganaaGreat.Eng
set_option linter.unusedSimpArgs false
set_option linter.unusedVariables false

def wi (a b c : Int) : Bool := decide (b ≤ a) && decide (a ≤ c)
abbrev Sea := Int × Int × Int
def Sea.enc (s : Sea) : AVal := .agg [.int .i64 s.1, .int .i64 s.2.1, .int .i64 s.2.2]
def Sea.bad (s : Sea) : Bool := !(wi s.1 0 364) || !(wi s.2.1 0 364) || !(wi s.2.2 0 1000000)
def Sea.has (s : Sea) (day : Int) : Bool := if s.1 ≤ s.2.1 then wi day s.1 s.2.1 else decide (s.1 ≤ day) || decide (day ≤ s.2.1)
def seaTop (day : Int) : List Sea → Int → Int
  | [], m => m
  | s :: l, m => seaTop day l (if s.has day then (if m < s.2.2 then s.2.2 else m) else m)

section
variable {X : FuncId → Option XFunc} (hX : SeaCode X)
include hX

theorem sea96 (a b c : Int) (σ : Store) : Run X (.call 92) [.int .i64 a, .int .i64 b, .int .i64 c] σ = some (.ret, [.bool (wi a b c)], σ) := by
  refine call3 (v := .bool (wi a b c)) hX.h92 rfl rfl rfl (by decide) ?_ rfl σ
  intro tm hl h0 h1 h2
  simp only [AVal.strip] at h0 h1 h2
  replace hl : tm.length = 15 := hl
  unfold Gives
  by_cases e1 : b ≤ a <;> simp [xf92, hl, h0, h1, h2, e1, wi]
theorem sea25 (a b c : Int) (σ : Store) : Run X (.call 27) [.int .i64 a, .int .i64 b, .int .i64 c] σ = some (.ret, [.bool (wi a b c)], σ) := by
  refine call3 (v := .bool (wi a b c)) hX.h27 rfl rfl rfl (by decide) ?_ rfl σ
  intro tm hl h0 h1 h2
  simp only [AVal.strip] at h0 h1 h2
  replace hl : tm.length = 15 := hl
  unfold Gives
  by_cases e1 : b ≤ a <;> simp [xf27, hl, h0, h1, h2, e1, wi]
theorem sea106 (c : Bool) (e : Int) (σ : Store) : Run X (.call 113) [.iptr [.bool c] 0, .iptr [.int .i64 e] 0] σ = some (.ret, [.int .i64 (if c then e else 0)], σ) := by
  refine call2 (v := .int .i64 (if c then e else 0)) hX.h113 rfl rfl (by decide) ?_ rfl σ
  intro tm hl h0 h1
  simp only [AVal.strip, stripL] at h0 h1
  replace hl : tm.length = 5 := hl
  unfold Gives
  cases c <;> simp [xf113, hl, h0, h1]
theorem sea59 (c : Bool) (e : Int) (σ : Store) : Run X (.call 78) [.bool c, .int .i64 e] σ = some (.ret, [.fn 113 [] [.iptr [.bool c] 0, .iptr [.int .i64 e] 0]], σ) := by
  refine call2 (v := .fn 113 [] [.iptr [.bool c] 0, .iptr [.int .i64 e] 0]) hX.h78 rfl rfl (by decide) ?_ rfl σ
  intro tm hl h0 h1
  simp only [AVal.strip, stripL] at h0 h1
  replace hl : tm.length = 6 := hl
  unfold Gives
  simp [xf78, hl, h0, h1, Store.empty, Store.new, Store.put, Store.get, look, putL, xcaps, freeL, AVal.free]

/-! The first error. -/
def firstNZ : List Int → Int
  | [] => 0
  | e :: l => if e = 0 then firstNZ l else e
structure Errs (X : FuncId → Option XFunc) (fs : List AVal) (es : List Int) : Prop where
  len : fs.length = es.length
  free : freeL fs = true
  run : ∀ (i : Nat) (h : i < fs.length) (h' : i < es.length), ∃ g a b, fs[i] = .fn g a b ∧ ∀ σ, Run X (.call g) (a ++ b) σ = some (.ret, [.int .i64 es[i]], σ)

omit hX in
theorem loop58 {fs : List AVal} {es : List Int} (hE : Errs X fs es) (hn : fs.length ≤ 1000000000) : ∀ (k i : Nat), i + k = fs.length → ∀ (tm : List AVal) (σ : Store), tm.length = 18 → XOpd.eval tm (.t 6) = .list 1 fs none → XOpd.eval tm (.t 7) = .int .i64 fs.length → XOpd.eval tm (.t 8) = .int .i64 i →
    Ends (Run X (.code (.loop xf77l0)) tm σ) (if firstNZ (es.drop i) = 0 then .exit 0 else .ret) fun tm' _ => tm'.length = 18 ∧ (firstNZ (es.drop i) ≠ 0 → XOpd.eval tm' (.t 2) = .int .i64 (firstNZ (es.drop i)))
  | 0, i, hk, tm, σ, hl, h6, h7, h8 => by
    have hi : i = fs.length := by omega
    subst hi
    have hd : es.drop fs.length = [] := List.drop_eq_nil_of_le (by rw [hE.len]; omega)
    rw [Run_loop]
    simp [xf77l0, hl, h6, h7, h8, hd, firstNZ]
  | k + 1, i, hk, tm, σ, hl, h6, h7, h8 => by
    have hi : i < fs.length := by omega
    have hi' : i < es.length := by rw [← hE.len]; exact hi
    obtain ⟨g, a, b, hf, hr⟩ := hE.run i hi hi'
    have hd : es.drop i = es[i] :: es.drop (i + 1) := List.drop_eq_getElem_cons hi'
    have hw : IntKind.i64.wrap ((i : Int) + 1) = ((i + 1 : Nat) : Int) := by rw [wrap_i64] <;> omega
    rw [Run_loop, hd]
    by_cases he : es[i] = 0
    · have ih := loop58 hE hn k (i + 1) (by omega)
      simp only [firstNZ, he, if_true]
      simp [xf77l0, hl, h6, h7, h8, hi, hf, hr, he, hw]
      exact ih _ _ (by simp [hl]) (by simp [hl, h6]) (by simp [hl, h7]) (by simp [hl])
    · simp only [firstNZ, he, if_false]
      simp [xf77l0, hl, h6, h7, h8, hi, hf, hr, he]

theorem sea58 {fs : List AVal} {es : List Int} (hE : Errs X fs es) (hn : fs.length ≤ 1000000000) (tok : Option Nat) (σ : Store) : Run X (.call 77) [.list 1 fs tok] σ = some (.ret, [.int .i64 (firstNZ es)], σ) := by
  refine call1 (v := .int .i64 (firstNZ es)) hX.h77 (by simp [AVal.strip, AVal.free, freeL_strip hE.free, hE.free]) (by decide) ?_ rfl σ
  intro tm hl h0
  simp only [AVal.strip, freeL_strip hE.free] at h0
  replace hl : tm.length = 18 := hl
  have hL := fun tm σ h1 h2 h3 h4 => out_of (loop58 hE hn fs.length 0 (by omega) tm σ h1 h2 h3 h4)
  simp only [List.drop_zero] at hL
  unfold Gives
  by_cases he : firstNZ es = 0
  · simp only [he, if_true] at hL
    simp (maxDischargeDepth := 9) [xf77, hl, h0, hL, he]
  · simp only [he, if_false] at hL
    simp (maxDischargeDepth := 9) [xf77, hl, h0, hL, he]

/-! The first item with an error. -/
def fstIx (e : Nat → Int) : Nat → Nat → Int × Int
  | 0, _ => (0, 0)
  | k + 1, i => if e i = 0 then fstIx e k (i + 1) else (i, e i)
omit hX in
theorem loop60 {g : FuncId} {a b : List AVal} {e : Nat → Int} {n : Nat} (hE : ∀ i, i < n → ∀ σ, Run X (.call g) (a ++ .int .i64 i :: b) σ = some (.ret, [.int .i64 (e i)], σ)) (hn : n ≤ 1000000000000) : ∀ (k i : Nat), i + k = n → ∀ (tm : List AVal) (σ : Store), tm.length = 20 → XOpd.eval tm (.t 1) = .fn g a b → XOpd.eval tm (.t 8) = .int .i64 n → XOpd.eval tm (.t 9) = .int .i64 i →
    Ends (Run X (.code (.loop xf74l0)) tm σ) (if (fstIx e k i).2 = 0 then .exit 0 else .ret) fun tm' _ => tm'.length = 20 ∧ ((fstIx e k i).2 ≠ 0 → XOpd.eval tm' (.t 4) = .int .i64 (fstIx e k i).1) ∧ ((fstIx e k i).2 ≠ 0 → XOpd.eval tm' (.t 5) = .int .i64 (fstIx e k i).2)
  | 0, i, hk, tm, σ, hl, h1, h8, h9 => by
    have hi : i = n := by omega
    subst hi
    rw [Run_loop]
    simp [xf74l0, hl, h1, h8, h9, fstIx]
  | k + 1, i, hk, tm, σ, hl, h1, h8, h9 => by
    have hi : i < n := by omega
    have hr := hE i hi
    have hw : IntKind.i64.wrap ((i : Int) + 1) = ((i + 1 : Nat) : Int) := by rw [wrap_i64] <;> omega
    rw [Run_loop]
    by_cases he : e i = 0
    · have ih := loop60 hE hn k (i + 1) (by omega)
      simp only [fstIx, he, if_true]
      simp [xf74l0, hl, h1, h8, h9, hi, hr, he, hw]
      exact ih _ _ (by simp [hl]) (by simp [hl, h1]) (by simp [hl, h8]) (by simp [hl])
    · simp only [fstIx, he, if_false]
      simp [xf74l0, hl, h1, h8, h9, hi, hr, he]

theorem sea60 {g : FuncId} {a b : List AVal} {e : Nat → Int} {n : Nat} (hE : ∀ i, i < n → ∀ σ, Run X (.call g) (a ++ .int .i64 i :: b) σ = some (.ret, [.int .i64 (e i)], σ)) (hn : n ≤ 1000000000000) (ha : freeL a = true) (hb : freeL b = true) (σ : Store) : Run X (.call 74) [.int .i64 n, .fn g a b] σ = some (.ret, [.tup [.int .i64 (fstIx e n 0).1, .int .i64 (fstIx e n 0).2]], σ) := by
  refine call2 (v := .tup [.int .i64 (fstIx e n 0).1, .int .i64 (fstIx e n 0).2]) hX.h74 rfl (by simp [AVal.strip, AVal.free, freeL_strip ha, freeL_strip hb, ha, hb]) (by decide) ?_ rfl σ
  intro tm hl h0 h1
  simp only [AVal.strip, freeL_strip ha, freeL_strip hb] at h0 h1
  replace hl : tm.length = 20 := hl
  have hL := fun tm σ h1 h2 h3 h4 => out_of (loop60 hE hn n 0 (by omega) tm σ h1 h2 h3 h4)
  have hz : ∀ k i, (fstIx e k i).2 = 0 → (fstIx e k i).1 = 0 := by
    intro k
    induction k with
    | zero => intro i _; rfl
    | succ k ih =>
      intro i
      simp only [fstIx]
      split
      · exact ih _
      · intro h; exact absurd h ‹_›
  unfold Gives
  by_cases he : (fstIx e n 0).2 = 0
  · have hz1 := hz _ _ he
    simp only [he, if_true] at hL
    simp (maxDischargeDepth := 9) [xf74, hl, h0, h1, hL, he, hz1, xresult, xrets]
  · simp only [he, if_false] at hL
    simp (maxDischargeDepth := 9) [xf74, hl, h0, h1, hL, he, xresult, xrets]

theorem sea130 {g : FuncId} {a b : List AVal} {e : Nat → Int} {n : Nat} (hE : ∀ i, i < n → ∀ σ, Run X (.call g) (a ++ .int .i64 i :: b) σ = some (.ret, [.int .i64 (e i)], σ)) (hn : n ≤ 1000000000000) (ha : freeL a = true) (hb : freeL b = true) (σ : Store) : Run X (.call 114) [.iptr [.int .i64 n] 0, .iptr [.fn g a b] 0] σ = some (.ret, [.int .i64 (fstIx e n 0).2], σ) := by
  refine call2 (v := .int .i64 (fstIx e n 0).2) hX.h114 rfl (by simp [AVal.strip, stripL, AVal.free, freeL, freeL_strip ha, freeL_strip hb, ha, hb]) (by decide) ?_ rfl σ
  intro tm hl h0 h1
  simp only [AVal.strip, stripL, freeL_strip ha, freeL_strip hb] at h0 h1
  replace hl : tm.length = 12 := hl
  unfold Gives
  simp [xf114, hl, h0, h1, sea60 hX hE hn ha hb]

theorem sea93 {g : FuncId} {a b : List AVal} {n : Int} (ha : freeL a = true) (hb : freeL b = true) (σ : Store) : Run X (.call 79) [.int .i64 n, .fn g a b] σ = some (.ret, [.fn 114 [] [.iptr [.int .i64 n] 0, .iptr [.fn g a b] 0]], σ) := by
  have hv : (AVal.fn 114 [] [.iptr [.int .i64 n] 0, .iptr [.fn g a b] 0]).strip = .fn 114 [] [.iptr [.int .i64 n] 0, .iptr [.fn g a b] 0] := by simp [AVal.strip, stripL, freeL_strip ha, freeL_strip hb]
  have := call2 (v := .fn 114 [] [.iptr [.int .i64 n] 0, .iptr [.fn g a b] 0]) (X := X) (f := 79) (a := .int .i64 n) (b := .fn g a b) hX.h79 rfl (by simp [AVal.strip, AVal.free, freeL_strip ha, freeL_strip hb, ha, hb]) (by decide) (fun tm hl h0 h1 => by
    simp only [AVal.strip, freeL_strip ha, freeL_strip hb] at h0 h1
    replace hl : tm.length = 6 := hl
    unfold Gives
    simp [xf79, hl, h0, h1, Store.empty, Store.new, Store.put, Store.get, look, putL, xcaps, freeL, AVal.free, ha, hb]) (by rw [hv]; simp [AVal.free, freeL, ha, hb]) σ
  rw [hv] at this
  exact this

/-- The list as it comes. -/
def SeaV (l : List Sea) (v : AVal) : Prop := v = .nils ∧ l = [] ∨ v = .list 3 (l.map Sea.enc) none
omit hX in
theorem sea_free (l : List Sea) : freeL (l.map Sea.enc) = true := by rw [freeL_all]; intro x hx; obtain ⟨s, _, rfl⟩ := List.mem_map.1 hx; rfl
omit hX in
theorem sea_ones (l : List Sea) : ones (l.map Sea.enc) = true := by
  simp [ones, Sea.enc, AVal.one]

/-! The minimum on a date, as the program finds it. -/
def seaErr (l : List Sea) (i : Nat) : Int := match l[i]? with
  | some s => if s.bad then 2 else 0
  | none => 0
omit hX in
theorem seaErr_all (l : List Sea) : ∀ (k i : Nat), i + k = l.length → (fstIx (seaErr l) k i).2 = if (l.drop i).any Sea.bad then 2 else 0
  | 0, i, h => by
    have : l.drop i = [] := List.drop_eq_nil_of_le (by omega)
    simp [fstIx, this]
  | k + 1, i, h => by
    have hi : i < l.length := by omega
    have hd : l.drop i = l[i] :: l.drop (i + 1) := List.drop_eq_getElem_cons hi
    have he : seaErr l i = if l[i].bad then 2 else 0 := by simp [seaErr, List.getElem?_eq_getElem hi]
    rw [hd, List.any_cons]
    simp only [fstIx, he]
    cases hb : l[i].bad with
    | true => simp
    | false =>
      have ih := seaErr_all l k (i + 1) (by omega)
      rw [Bool.false_or, ← ih]; simp

/-- The minimum on a date: what is asked. -/
def minOn (l : List Sea) (d : Int) : Int × Int := if 12 < l.length then (0, 8) else if l.any Sea.bad then (0, 2) else if wi d 0 100000 then (seaTop (d.tmod 365) l 0, 0) else (0, 2)

/-! The minimum on a date, as it is asked. -/
end
end Go.Proofs.YtbgjmclpahganaaGreat.Eng
