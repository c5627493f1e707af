/-
  LAKE: the seasons' functions, run.
-/
import Derived.Test.YtbpflcilndinfaaCode1
import Derived.Test.YtbpflcilndinfaaEngZ
namespace Go.Proofs.Ytbpflcilndinfaa.Eng
set_option linter.unusedSimpArgs false
set_option linter.unusedVariables false

def wi (a b c : Int) : Bool := decide (b ≤ a) && decide (a ≤ c)
abbrev Sea := Int × Int × Int
def Sea.enc (s : Sea) : AVal := .agg [.int .i64 s.1, .int .i64 s.2.1, .int .i64 s.2.2]
def Sea.bad (s : Sea) : Bool := !(wi s.1 0 364) || !(wi s.2.1 0 364) || !(wi s.2.2 0 1000000)
def Sea.has (s : Sea) (day : Int) : Bool := if s.1 ≤ s.2.1 then wi day s.1 s.2.1 else decide (s.1 ≤ day) || decide (day ≤ s.2.1)
def seaTop (day : Int) : List Sea → Int → Int
  | [], m => m
  | s :: l, m => seaTop day l (if s.has day then (if m < s.2.2 then s.2.2 else m) else m)

section
variable {X : FuncId → Option XFunc} (hX : SeaCode X)
include hX

theorem sea96 (a b c : Int) (σ : Store) : Run X (.call 96) [.int .i64 a, .int .i64 b, .int .i64 c] σ = some (.ret, [.bool (wi a b c)], σ) := by
  refine call3 (v := .bool (wi a b c)) hX.h96 rfl rfl rfl (by decide) ?_ rfl σ
  intro tm hl h0 h1 h2
  simp only [AVal.strip] at h0 h1 h2
  replace hl : tm.length = 15 := hl
  unfold Gives
  by_cases e1 : b ≤ a <;> simp [xf96, hl, h0, h1, h2, e1, wi]
theorem sea25 (a b c : Int) (σ : Store) : Run X (.call 25) [.int .i64 a, .int .i64 b, .int .i64 c] σ = some (.ret, [.bool (wi a b c)], σ) := by
  refine call3 (v := .bool (wi a b c)) hX.h25 rfl rfl rfl (by decide) ?_ rfl σ
  intro tm hl h0 h1 h2
  simp only [AVal.strip] at h0 h1 h2
  replace hl : tm.length = 15 := hl
  unfold Gives
  by_cases e1 : b ≤ a <;> simp [xf25, hl, h0, h1, h2, e1, wi]
theorem sea97 (s : Sea) (d : Int) (σ : Store) : Run X (.call 97) [s.enc, .int .i64 d] σ = some (.ret, [.bool (s.has d)], σ) := by
  refine call2 (v := .bool (s.has d)) hX.h97 rfl rfl (by decide) ?_ rfl σ
  intro tm hl h0 h1
  simp only [AVal.strip, Sea.enc, stripL] at h0 h1
  replace hl : tm.length = 26 := hl
  unfold Gives
  by_cases e1 : s.1 ≤ s.2.1 <;> by_cases e2 : s.1 ≤ d <;> simp [xf97, hl, h0, h1, e1, e2, Sea.has, sea96 hX, Store.empty, Store.new, Store.get, look, putL]
theorem sea95 (s : Sea) (σ : Store) : Run X (.call 95) [s.enc] σ = some (.ret, [.int .i64 (if s.bad then 2 else 0)], σ) := by
  refine call1 (v := .int .i64 (if s.bad then 2 else 0)) hX.h95 rfl (by decide) ?_ rfl σ
  intro tm hl h0
  simp only [AVal.strip, Sea.enc, stripL] at h0
  replace hl : tm.length = 19 := hl
  unfold Gives
  cases e1 : wi s.1 0 364 <;> cases e2 : wi s.2.1 0 364 <;> cases e3 : wi s.2.2 0 1000000 <;> simp [xf95, hl, h0, e1, e2, e3, Sea.bad, sea96 hX, Store.empty, Store.new, Store.get, look, putL]
theorem sea106 (c : Bool) (e : Int) (σ : Store) : Run X (.call 106) [.iptr [.bool c] 0, .iptr [.int .i64 e] 0] σ = some (.ret, [.int .i64 (if c then e else 0)], σ) := by
  refine call2 (v := .int .i64 (if c then e else 0)) hX.h106 rfl rfl (by decide) ?_ rfl σ
  intro tm hl h0 h1
  simp only [AVal.strip, stripL] at h0 h1
  replace hl : tm.length = 5 := hl
  unfold Gives
  cases c <;> simp [xf106, hl, h0, h1]
theorem sea59 (c : Bool) (e : Int) (σ : Store) : Run X (.call 59) [.bool c, .int .i64 e] σ = some (.ret, [.fn 106 [] [.iptr [.bool c] 0, .iptr [.int .i64 e] 0]], σ) := by
  refine call2 (v := .fn 106 [] [.iptr [.bool c] 0, .iptr [.int .i64 e] 0]) hX.h59 rfl rfl (by decide) ?_ rfl σ
  intro tm hl h0 h1
  simp only [AVal.strip, stripL] at h0 h1
  replace hl : tm.length = 6 := hl
  unfold Gives
  simp [xf59, hl, h0, h1, Store.empty, Store.new, Store.put, Store.get, look, putL, xcaps, freeL, AVal.free]

/-! The first error. -/
def firstNZ : List Int → Int
  | [] => 0
  | e :: l => if e = 0 then firstNZ l else e
structure Errs (X : FuncId → Option XFunc) (fs : List AVal) (es : List Int) : Prop where
  len : fs.length = es.length
  free : freeL fs = true
  run : ∀ (i : Nat) (h : i < fs.length) (h' : i < es.length), ∃ g a b, fs[i] = .fn g a b ∧ ∀ σ, Run X (.call g) (a ++ b) σ = some (.ret, [.int .i64 es[i]], σ)

omit hX in
theorem loop58 {fs : List AVal} {es : List Int} (hE : Errs X fs es) (hn : fs.length ≤ 1000000000) : ∀ (k i : Nat), i + k = fs.length → ∀ (tm : List AVal) (σ : Store), tm.length = 18 → XOpd.eval tm (.t 6) = .list 1 fs none → XOpd.eval tm (.t 7) = .int .i64 fs.length → XOpd.eval tm (.t 8) = .int .i64 i →
    Ends (Run X (.code (.loop xf58l0)) tm σ) (if firstNZ (es.drop i) = 0 then .exit 0 else .ret) fun tm' _ => tm'.length = 18 ∧ (firstNZ (es.drop i) ≠ 0 → XOpd.eval tm' (.t 2) = .int .i64 (firstNZ (es.drop i)))
  | 0, i, hk, tm, σ, hl, h6, h7, h8 => by
    have hi : i = fs.length := by omega
    subst hi
    have hd : es.drop fs.length = [] := List.drop_eq_nil_of_le (by rw [hE.len]; omega)
    rw [Run_loop]
    simp [xf58l0, hl, h6, h7, h8, hd, firstNZ]
  | k + 1, i, hk, tm, σ, hl, h6, h7, h8 => by
    have hi : i < fs.length := by omega
    have hi' : i < es.length := by rw [← hE.len]; exact hi
    obtain ⟨g, a, b, hf, hr⟩ := hE.run i hi hi'
    have hd : es.drop i = es[i] :: es.drop (i + 1) := List.drop_eq_getElem_cons hi'
    have hw : IntKind.i64.wrap ((i : Int) + 1) = ((i + 1 : Nat) : Int) := by rw [wrap_i64] <;> omega
    rw [Run_loop, hd]
    by_cases he : es[i] = 0
    · have ih := loop58 hE hn k (i + 1) (by omega)
      simp only [firstNZ, he, if_true]
      simp [xf58l0, hl, h6, h7, h8, hi, hf, hr, he, hw]
      exact ih _ _ (by simp [hl]) (by simp [hl, h6]) (by simp [hl, h7]) (by simp [hl])
    · simp only [firstNZ, he, if_false]
      simp [xf58l0, hl, h6, h7, h8, hi, hf, hr, he]

theorem sea58 {fs : List AVal} {es : List Int} (hE : Errs X fs es) (hn : fs.length ≤ 1000000000) (tok : Option Nat) (σ : Store) : Run X (.call 58) [.list 1 fs tok] σ = some (.ret, [.int .i64 (firstNZ es)], σ) := by
  refine call1 (v := .int .i64 (firstNZ es)) hX.h58 (by simp [AVal.strip, AVal.free, freeL_strip hE.free, hE.free]) (by decide) ?_ rfl σ
  intro tm hl h0
  simp only [AVal.strip, freeL_strip hE.free] at h0
  replace hl : tm.length = 18 := hl
  have hL := fun tm σ h1 h2 h3 h4 => out_of (loop58 hE hn fs.length 0 (by omega) tm σ h1 h2 h3 h4)
  simp only [List.drop_zero] at hL
  unfold Gives
  by_cases he : firstNZ es = 0
  · simp only [he, if_true] at hL
    simp (maxDischargeDepth := 9) [xf58, hl, h0, hL, he]
  · simp only [he, if_false] at hL
    simp (maxDischargeDepth := 9) [xf58, hl, h0, hL, he]

/-! The first item with an error. -/
def fstIx (e : Nat → Int) : Nat → Nat → Int × Int
  | 0, _ => (0, 0)
  | k + 1, i => if e i = 0 then fstIx e k (i + 1) else (i, e i)
omit hX in
theorem loop60 {g : FuncId} {a b : List AVal} {e : Nat → Int} {n : Nat} (hE : ∀ i, i < n → ∀ σ, Run X (.call g) (a ++ .int .i64 i :: b) σ = some (.ret, [.int .i64 (e i)], σ)) (hn : n ≤ 1000000000000) : ∀ (k i : Nat), i + k = n → ∀ (tm : List AVal) (σ : Store), tm.length = 20 → XOpd.eval tm (.t 1) = .fn g a b → XOpd.eval tm (.t 8) = .int .i64 n → XOpd.eval tm (.t 9) = .int .i64 i →
    Ends (Run X (.code (.loop xf60l0)) tm σ) (if (fstIx e k i).2 = 0 then .exit 0 else .ret) fun tm' _ => tm'.length = 20 ∧ ((fstIx e k i).2 ≠ 0 → XOpd.eval tm' (.t 4) = .int .i64 (fstIx e k i).1) ∧ ((fstIx e k i).2 ≠ 0 → XOpd.eval tm' (.t 5) = .int .i64 (fstIx e k i).2)
  | 0, i, hk, tm, σ, hl, h1, h8, h9 => by
    have hi : i = n := by omega
    subst hi
    rw [Run_loop]
    simp [xf60l0, hl, h1, h8, h9, fstIx]
  | k + 1, i, hk, tm, σ, hl, h1, h8, h9 => by
    have hi : i < n := by omega
    have hr := hE i hi
    have hw : IntKind.i64.wrap ((i : Int) + 1) = ((i + 1 : Nat) : Int) := by rw [wrap_i64] <;> omega
    rw [Run_loop]
    by_cases he : e i = 0
    · have ih := loop60 hE hn k (i + 1) (by omega)
      simp only [fstIx, he, if_true]
      simp [xf60l0, hl, h1, h8, h9, hi, hr, he, hw]
      exact ih _ _ (by simp [hl]) (by simp [hl, h1]) (by simp [hl, h8]) (by simp [hl])
    · simp only [fstIx, he, if_false]
      simp [xf60l0, hl, h1, h8, h9, hi, hr, he]

theorem sea60 {g : FuncId} {a b : List AVal} {e : Nat → Int} {n : Nat} (hE : ∀ i, i < n → ∀ σ, Run X (.call g) (a ++ .int .i64 i :: b) σ = some (.ret, [.int .i64 (e i)], σ)) (hn : n ≤ 1000000000000) (ha : freeL a = true) (hb : freeL b = true) (σ : Store) : Run X (.call 60) [.int .i64 n, .fn g a b] σ = some (.ret, [.tup [.int .i64 (fstIx e n 0).1, .int .i64 (fstIx e n 0).2]], σ) := by
  refine call2 (v := .tup [.int .i64 (fstIx e n 0).1, .int .i64 (fstIx e n 0).2]) hX.h60 rfl (by simp [AVal.strip, AVal.free, freeL_strip ha, freeL_strip hb, ha, hb]) (by decide) ?_ rfl σ
  intro tm hl h0 h1
  simp only [AVal.strip, freeL_strip ha, freeL_strip hb] at h0 h1
  replace hl : tm.length = 20 := hl
  have hL := fun tm σ h1 h2 h3 h4 => out_of (loop60 hE hn n 0 (by omega) tm σ h1 h2 h3 h4)
  have hz : ∀ k i, (fstIx e k i).2 = 0 → (fstIx e k i).1 = 0 := by
    intro k
    induction k with
    | zero => intro i _; rfl
    | succ k ih =>
      intro i
      simp only [fstIx]
      split
      · exact ih _
      · intro h; exact absurd h ‹_›
  unfold Gives
  by_cases he : (fstIx e n 0).2 = 0
  · have hz1 := hz _ _ he
    simp only [he, if_true] at hL
    simp (maxDischargeDepth := 9) [xf60, hl, h0, h1, hL, he, hz1, xresult, xrets]
  · simp only [he, if_false] at hL
    simp (maxDischargeDepth := 9) [xf60, hl, h0, h1, hL, he, xresult, xrets]

theorem sea130 {g : FuncId} {a b : List AVal} {e : Nat → Int} {n : Nat} (hE : ∀ i, i < n → ∀ σ, Run X (.call g) (a ++ .int .i64 i :: b) σ = some (.ret, [.int .i64 (e i)], σ)) (hn : n ≤ 1000000000000) (ha : freeL a = true) (hb : freeL b = true) (σ : Store) : Run X (.call 130) [.iptr [.int .i64 n] 0, .iptr [.fn g a b] 0] σ = some (.ret, [.int .i64 (fstIx e n 0).2], σ) := by
  refine call2 (v := .int .i64 (fstIx e n 0).2) hX.h130 rfl (by simp [AVal.strip, stripL, AVal.free, freeL, freeL_strip ha, freeL_strip hb, ha, hb]) (by decide) ?_ rfl σ
  intro tm hl h0 h1
  simp only [AVal.strip, stripL, freeL_strip ha, freeL_strip hb] at h0 h1
  replace hl : tm.length = 12 := hl
  unfold Gives
  simp [xf130, hl, h0, h1, sea60 hX hE hn ha hb]

theorem sea93 {g : FuncId} {a b : List AVal} {n : Int} (ha : freeL a = true) (hb : freeL b = true) (σ : Store) : Run X (.call 93) [.int .i64 n, .fn g a b] σ = some (.ret, [.fn 130 [] [.iptr [.int .i64 n] 0, .iptr [.fn g a b] 0]], σ) := by
  have hv : (AVal.fn 130 [] [.iptr [.int .i64 n] 0, .iptr [.fn g a b] 0]).strip = .fn 130 [] [.iptr [.int .i64 n] 0, .iptr [.fn g a b] 0] := by simp [AVal.strip, stripL, freeL_strip ha, freeL_strip hb]
  have := call2 (v := .fn 130 [] [.iptr [.int .i64 n] 0, .iptr [.fn g a b] 0]) (X := X) (f := 93) (a := .int .i64 n) (b := .fn g a b) hX.h93 rfl (by simp [AVal.strip, AVal.free, freeL_strip ha, freeL_strip hb, ha, hb]) (by decide) (fun tm hl h0 h1 => by
    simp only [AVal.strip, freeL_strip ha, freeL_strip hb] at h0 h1
    replace hl : tm.length = 6 := hl
    unfold Gives
    simp [xf93, hl, h0, h1, Store.empty, Store.new, Store.put, Store.get, look, putL, xcaps, freeL, AVal.free, ha, hb]) (by rw [hv]; simp [AVal.free, freeL, ha, hb]) σ
  rw [hv] at this
  exact this

theorem sea94 (l : List Sea) (i : Nat) (hi : i < l.length) (σ : Store) : Run X (.call 94) [.int .i64 i, .iptr [.list 3 (l.map Sea.enc) none] 0] σ = some (.ret, [.int .i64 (if l[i].bad then 2 else 0)], σ) := by
  have hfr : freeL (l.map Sea.enc) = true := by rw [freeL_all]; intro x hx; obtain ⟨s, _, rfl⟩ := List.mem_map.1 hx; rfl
  refine call2 (v := .int .i64 (if l[i].bad then 2 else 0)) hX.h94 rfl (by simp [AVal.strip, stripL, AVal.free, freeL, freeL_strip hfr, hfr]) (by decide) ?_ rfl σ
  intro tm hl h0 h1
  simp only [AVal.strip, stripL, freeL_strip hfr] at h0 h1
  replace hl : tm.length = 9 := hl
  have h95 := sea95 hX l[i]
  unfold Gives
  simp only [Sea.enc] at h95
  simp [xf94, hl, h0, h1, hi, Sea.enc, h95]

/-- The list as it comes. -/
def SeaV (l : List Sea) (v : AVal) : Prop := v = .nils ∧ l = [] ∨ v = .list 3 (l.map Sea.enc) none
omit hX in
theorem sea_free (l : List Sea) : freeL (l.map Sea.enc) = true := by rw [freeL_all]; intro x hx; obtain ⟨s, _, rfl⟩ := List.mem_map.1 hx; rfl
omit hX in
theorem sea_ones (l : List Sea) : ones (l.map Sea.enc) = true := by
  simp [ones, Sea.enc, AVal.one]

theorem sea46 {l : List Sea} {v : AVal} (hv : SeaV l v) (hn : l.length ≤ 1000000) (σ : Store) : Run X (.call 46) [v] σ = some (.ret, [.list 3 (l.map Sea.enc) none], σ) := by
  have hs : (AVal.list 3 (l.map Sea.enc) none).strip = .list 3 (l.map Sea.enc) none := by simp [AVal.strip, freeL_strip (sea_free l)]
  have hfr : (AVal.list 3 (l.map Sea.enc) none).free = true := by simp [AVal.free, sea_free]
  rcases hv with ⟨rfl, rfl⟩ | rfl
  · have := call1 (X := X) (f := 46) (a := .nils) (v := .list 3 [] (some 0)) hX.h46 rfl (by decide) (fun tm hl h0 => by
      simp only [AVal.strip] at h0
      replace hl : tm.length = 6 := hl
      unfold Gives
      simp [xf46, hl, h0, Store.empty, Store.new, fillR, chunks, xappend, AVal.isSlice]) rfl σ
    simpa [AVal.strip, stripL] using this
  · cases l with
    | nil =>
      have := call1 (X := X) (f := 46) (a := .list 3 [] none) (v := .list 3 [] (some 0)) hX.h46 rfl (by decide) (fun tm hl h0 => by
        simp only [AVal.strip, stripL] at h0
        replace hl : tm.length = 6 := hl
        unfold Gives
        simp [xf46, hl, h0, Store.empty, Store.new, fillR, chunks, xappend, AVal.isSlice, ones]) rfl σ
      simpa [AVal.strip, stripL] using this
    | cons s l =>
      have ho := sea_ones (s :: l)
      have h1 := sea_free (s :: l)
      have h2 := freeL_strip h1
      simp only [List.map_cons] at ho hs hfr h1 h2
      have := call1 (X := X) (f := 46) (a := .list 3 ((s :: l).map Sea.enc) none) (v := .list 3 ((s :: l).map Sea.enc) (some 0)) hX.h46 (by simpa [hs] using hfr) (by decide) (fun tm hl h0 => by
        simp only [List.map_cons, hs] at h0
        replace hl : tm.length = 6 := hl
        simp only [List.length_cons] at hn
        have e1 : l.length + 1 ≤ 1000000000000 := by omega
        have e2 : (l.length + 1) * 24 ≤ 1000000000000 := by omega
        unfold Gives
        simp [xf46, hl, h0, Store.empty, Store.new, Store.get, Store.put, look, putL, fillR, chunks, xappend, AVal.isSlice, ho, e1, e2]) (by simp [AVal.strip, AVal.free, h1, h2]) σ
      simpa [AVal.strip, h2] using this

/-! The minimum on a date, as the program finds it. -/
def seaErr (l : List Sea) (i : Nat) : Int := match l[i]? with
  | some s => if s.bad then 2 else 0
  | none => 0
omit hX in
theorem seaErr_all (l : List Sea) : ∀ (k i : Nat), i + k = l.length → (fstIx (seaErr l) k i).2 = if (l.drop i).any Sea.bad then 2 else 0
  | 0, i, h => by
    have : l.drop i = [] := List.drop_eq_nil_of_le (by omega)
    simp [fstIx, this]
  | k + 1, i, h => by
    have hi : i < l.length := by omega
    have hd : l.drop i = l[i] :: l.drop (i + 1) := List.drop_eq_getElem_cons hi
    have he : seaErr l i = if l[i].bad then 2 else 0 := by simp [seaErr, List.getElem?_eq_getElem hi]
    rw [hd, List.any_cons]
    simp only [fstIx, he]
    cases hb : l[i].bad with
    | true => simp
    | false =>
      have ih := seaErr_all l k (i + 1) (by omega)
      rw [Bool.false_or, ← ih]; simp

theorem loop45 {l : List Sea} {d : Int} (hn : l.length ≤ 1000000) : ∀ (k i : Nat), i + k = l.length → ∀ (m : Int) (tm : List AVal) (σ : Store), tm.length = 43 → XOpd.eval tm (.t 1) = .int .i64 d → XOpd.eval tm (.t 27) = .list 3 (l.map Sea.enc) none → XOpd.eval tm (.t 28) = .int .i64 l.length → XOpd.eval tm (.t 29) = .int .i64 i → XOpd.eval tm (.t 7) = .int .i64 m →
    Ends (Run X (.code (.loop xf45l0)) tm σ) (.exit 0) fun tm' _ => tm'.length = 43 ∧ XOpd.eval tm' (.t 7) = .int .i64 (seaTop (d.tmod 365) (l.drop i) m)
  | 0, i, hk, m, tm, σ, hl, h1, h27, h28, h29, h7 => by
    have hi : i = l.length := by omega
    subst hi
    rw [Run_loop]
    simp [xf45l0, hl, h1, h27, h28, h29, h7, seaTop]
  | k + 1, i, hk, m, tm, σ, hl, h1, h27, h28, h29, h7 => by
    have hi : i < l.length := by omega
    have hw : IntKind.i64.wrap ((i : Int) + 1) = ((i + 1 : Nat) : Int) := by rw [wrap_i64] <;> omega
    have hd : l.drop i = l[i] :: l.drop (i + 1) := List.drop_eq_getElem_cons hi
    have h97 := fun d' σ => sea97 hX l[i] d' σ
    simp only [Sea.enc] at h97
    rw [Run_loop, hd]
    cases hb : l[i].has (d.tmod 365)
    · have ih := loop45 (d := d) hn k (i + 1) (by omega) m
      simp only [seaTop, hb, Bool.false_eq_true, if_false]
      simp [xf45l0, hl, h1, h27, h28, h29, h7, hi, hb, hw, Sea.enc, Store.get_new, Store.get_put, Mem.put_self, setR, AVal.one, h97]
      exact ih _ _ (by simp [hl]) (by simp [hl, h1]) (by simp [hl, h27]) (by simp [hl, h28]) (by simp [hl]) (by simp [hl, h7])
    · have ih := loop45 (d := d) hn k (i + 1) (by omega) (if m < l[i].2.2 then l[i].2.2 else m)
      simp only [seaTop, hb, if_true]
      simp [xf45l0, hl, h1, h27, h28, h29, h7, hi, hb, hw, Sea.enc, Store.get_new, Store.get_put, Mem.put_self, setR, AVal.one, h97]
      exact ih _ _ (by simp [hl]) (by simp [hl, h1]) (by simp [hl, h27]) (by simp [hl, h28]) (by simp [hl]) (by simp [hl, h7])

/-- The minimum on a date: what is asked. -/
def minOn (l : List Sea) (d : Int) : Int × Int := if 12 < l.length then (0, 8) else if l.any Sea.bad then (0, 2) else if wi d 0 100000 then (seaTop (d.tmod 365) l 0, 0) else (0, 2)

theorem sea45 {l : List Sea} (hn : l.length ≤ 1000000) (d : Int) (σ : Store) : Run X (.call 45) [.list 3 (l.map Sea.enc) none, .int .i64 d] σ = some (.ret, [.tup [.int .i64 (minOn l d).1, .int .i64 (minOn l d).2]], σ) := by
  have hfr := sea_free l
  refine call2 (v := .tup [.int .i64 (minOn l d).1, .int .i64 (minOn l d).2]) hX.h45 (by simp [AVal.strip, AVal.free, freeL_strip hfr, hfr]) rfl (by decide) ?_ rfl σ
  intro tm hl h0 h1
  simp only [AVal.strip, freeL_strip hfr] at h0 h1
  replace hl : tm.length = 43 := hl
  have hL := fun tm σ h1 h2 h3 h4 h5 h6 => out_of (loop45 hX (d := d) hn l.length 0 (by omega) 0 tm σ h1 h2 h3 h4 h5 h6)
  simp only [List.drop_zero] at hL
  have hE : ∀ (c1 c3 : Bool), Errs X [.fn 106 [] [.iptr [.bool c1] 0, .iptr [.int .i64 8] 0], .fn 130 [] [.iptr [.int .i64 l.length] 0, .iptr [.fn 94 [] [.iptr [.list 3 (l.map Sea.enc) none] 0]] 0], .fn 106 [] [.iptr [.bool c3] 0, .iptr [.int .i64 2] 0]] [if c1 then 8 else 0, if l.any Sea.bad then 2 else 0, if c3 then 2 else 0] := fun c1 c3 => by
    refine ⟨rfl, by simp [freeL, AVal.free, hfr], fun i h h' => ?_⟩
    have hi : i = 0 ∨ i = 1 ∨ i = 2 := by simp at h; omega
    rcases hi with rfl | rfl | rfl
    · exact ⟨_, _, _, rfl, fun σ => sea106 hX c1 8 σ⟩
    · refine ⟨_, _, _, rfl, fun σ => ?_⟩
      have h1 := sea130 hX (g := 94) (a := []) (b := [.iptr [.list 3 (l.map Sea.enc) none] 0]) (e := seaErr l) (n := l.length) (fun i hi σ => by
        have := sea94 hX l i hi σ
        simpa [seaErr, List.getElem?_eq_getElem hi] using this) (by omega) rfl (by simp [freeL, AVal.free, hfr]) σ
      rw [seaErr_all l l.length 0 (by omega)] at h1
      exact h1
    · exact ⟨_, _, _, rfl, fun σ => sea106 hX c3 2 σ⟩
  have h58 := fun c1 c3 tok => sea58 hX (hE c1 c3) (by simp) tok
  have h93 := fun (n : Int) => sea93 hX (g := 94) (a := []) (b := [.iptr [.list 3 (l.map Sea.enc) none] 0]) (n := n) rfl (by simp [freeL, AVal.free, hfr])
  unfold Gives
  have hs := freeL_strip hfr
  by_cases e0 : 12 < l.length
  · have e1 : (12 : Int) < (l.length : Int) := by omega
    cases e3 : wi d 0 100000 <;> simp (maxDischargeDepth := 9) [xf45, hl, h0, h1, e0, e1, e3, hL, stripL, AVal.strip, hs, h58, h93, sea59 hX, sea96 hX, minOn, Store.empty, Store.new, Store.put, Store.get, look, putL, xcaps, capsOf, freeL, AVal.free, hfr, Store.only, Store.merge, touch, wrote, upTo, isIn, okRec, hits, firstNZ, xresult, xrets, fillR, chunks, mkV, setR, AVal.one, List.filter]
  · have e1 : ¬ (12 : Int) < (l.length : Int) := by omega
    cases e2 : l.any Sea.bad <;> cases e3 : wi d 0 100000 <;> simp (maxDischargeDepth := 9) [xf45, hl, h0, h1, e0, e1, e2, e3, hL, stripL, AVal.strip, hs, h58, h93, sea59 hX, sea96 hX, minOn, Store.empty, Store.new, Store.put, Store.get, look, putL, xcaps, capsOf, freeL, AVal.free, hfr, Store.only, Store.merge, touch, wrote, upTo, isIn, okRec, hits, firstNZ, xresult, xrets, fillR, chunks, mkV, setR, AVal.one, List.filter]

/-! The minimum on a date, as it is asked. -/
theorem loop47a {l : List Sea} (hn : l.length ≤ 1000000) (b : Bool) : ∀ (k i : Nat), i + k = l.length → (l.drop i).any Sea.bad = b → ∀ (a1 : AVal) (tm : List AVal) (σ : Store), tm.length = 104 → XOpd.eval tm (.t 0) = .list 3 (l.map Sea.enc) none → XOpd.eval tm (.t 6) = .int .i64 i → XOpd.eval tm (.t 1) = a1 →
    Ends (Run X (.code (.loop xf47l0)) tm σ) (if b then .ret else .exit 0) fun tm' _ => tm'.length = 104 ∧ XOpd.eval tm' (.t 0) = .list 3 (l.map Sea.enc) none ∧ XOpd.eval tm' (.t 1) = a1 ∧ (b = true → XOpd.eval tm' (.t 4) = .int .i64 0) ∧ (b = true → XOpd.eval tm' (.t 5) = .int .i64 2)
  | 0, i, hk, hb, a1, tm, σ, hl, h0, h6, h1 => by
    have hi : i = l.length := by omega
    subst hi
    simp only [List.drop_length, List.any_nil] at hb
    subst hb
    rw [Run_loop]
    simp [xf47l0, hl, h0, h6, h1]
  | k + 1, i, hk, hB, a1, tm, σ, hl, h0, h6, h1 => by
    have hi : i < l.length := by omega
    have hw : IntKind.i64.wrap ((i : Int) + 1) = ((i + 1 : Nat) : Int) := by rw [wrap_i64] <;> omega
    have hd : l.drop i = l[i] :: l.drop (i + 1) := List.drop_eq_getElem_cons hi
    have h25 := sea25 hX
    rw [hd, List.any_cons] at hB
    rw [Run_loop]
    cases hb : l[i].bad
    · rw [hb, Bool.false_or] at hB
      have ih := loop47a hn b k (i + 1) (by omega) hB a1
      simp only [Sea.bad, Bool.or_eq_false_iff, Bool.not_eq_false'] at hb
      obtain ⟨⟨b1, b2⟩, b3⟩ := hb
      simp [xf47l0, hl, h0, h6, h1, hi, hw, Sea.enc, h25, b1, b2, b3]
      exact ih _ _ (by simp [hl]) (by simp [hl, h0]) (by simp [hl]) (by simp [hl, h1])
    · rw [hb, Bool.true_or] at hB
      subst hB
      cases b1 : wi l[i].1 0 364 <;> cases b2 : wi l[i].2.1 0 364 <;> cases b3 : wi l[i].2.2 0 1000000 <;> simp [Sea.bad, b1, b2, b3] at hb <;> simp [xf47l0, hl, h0, h6, h1, hi, hw, Sea.enc, h25, b1, b2, b3]

theorem loop47b {l : List Sea} (hn : l.length ≤ 1000000) (day : Int) : ∀ (k i : Nat), i + k = l.length → ∀ (m : Int) (tm : List AVal) (σ : Store), tm.length = 104 → XOpd.eval tm (.t 0) = .list 3 (l.map Sea.enc) none → XOpd.eval tm (.t 9) = .int .i64 i → XOpd.eval tm (.t 7) = .int .i64 day → XOpd.eval tm (.t 8) = .int .i64 m →
    Ends (Run X (.code (.loop xf47l1)) tm σ) (.exit 2) fun tm' _ => tm'.length = 104 ∧ XOpd.eval tm' (.t 8) = .int .i64 (seaTop day (l.drop i) m)
  | 0, i, hk, m, tm, σ, hl, h0, h9, h7, h8 => by
    have hi : i = l.length := by omega
    subst hi
    rw [Run_loop]
    simp [xf47l1, hl, h0, h9, h7, h8, seaTop]
  | k + 1, i, hk, m, tm, σ, hl, h0, h9, h7, h8 => by
    have hi : i < l.length := by omega
    have hw : IntKind.i64.wrap ((i : Int) + 1) = ((i + 1 : Nat) : Int) := by rw [wrap_i64] <;> omega
    have hd : l.drop i = l[i] :: l.drop (i + 1) := List.drop_eq_getElem_cons hi
    have h25 := sea25 hX
    have ih := fun m => loop47b hn day k (i + 1) (by omega) m
    rw [Run_loop, hd]
    by_cases e1 : l[i].1 ≤ l[i].2.1
    · have e2 : ¬ l[i].2.1 < l[i].1 := by omega
      cases hb : wi day l[i].1 l[i].2.1
      · simp only [seaTop, Sea.has, e1, if_true, hb, Bool.false_eq_true, if_false]
        simp [xf47l1, hl, h0, h9, h7, h8, hi, hw, Sea.enc, h25, e2, hb, Store.only, Store.merge, touch, wrote, upTo, isIn, okRec, hits, capsOf, xcaps, stripL, AVal.strip, freeL, AVal.free]
        exact ih _ _ _ (by simp [hl]) (by simp [hl, h0]) (by simp [hl]) (by simp [hl, h7]) (by simp [hl, h8])
      · simp only [seaTop, Sea.has, e1, if_true, hb]
        simp [xf47l1, hl, h0, h9, h7, h8, hi, hw, Sea.enc, h25, e2, hb, Store.only, Store.merge, touch, wrote, upTo, isIn, okRec, hits, capsOf, xcaps, stripL, AVal.strip, freeL, AVal.free]
        exact ih _ _ _ (by simp [hl]) (by simp [hl, h0]) (by simp [hl]) (by simp [hl, h7]) (by simp [hl, h8])
    · have e2 : l[i].2.1 < l[i].1 := by omega
      by_cases b1 : l[i].1 ≤ day <;> by_cases b2 : day ≤ l[i].2.1
      all_goals simp only [seaTop, Sea.has, e1, if_false, b1, b2, decide_true, decide_false, Bool.or_true, Bool.true_or, Bool.or_false, Bool.false_eq_true, if_true]
      all_goals simp [xf47l1, hl, h0, h9, h7, h8, hi, hw, Sea.enc, h25, e2, b1, b2, Store.only, Store.merge, touch, wrote, upTo, isIn, okRec, hits, capsOf, xcaps, stripL, AVal.strip, freeL, AVal.free]
      all_goals exact ih _ _ _ (by simp [hl]) (by simp [hl, h0]) (by simp [hl]) (by simp [hl, h7]) (by simp [hl, h8])

theorem sea47 {l : List Sea} {v : AVal} (hv : SeaV l v) (hn : l.length ≤ 1000000) (d : Int) (σ : Store) : Run X (.call 47) [v, .int .i64 d] σ = some (.ret, [.tup [.int .i64 (minOn l d).1, .int .i64 (minOn l d).2]], σ) := by
  have h25 := sea25 hX
  rcases hv with ⟨rfl, rfl⟩ | rfl
  · refine call2 (v := .tup [.int .i64 (minOn [] d).1, .int .i64 (minOn [] d).2]) hX.h47 rfl rfl (by decide) ?_ rfl σ
    intro tm hl h0 h1
    simp only [AVal.strip] at h0 h1
    replace hl : tm.length = 104 := hl
    unfold Gives
    cases e3 : wi d 0 100000 <;> simp [xf47, Run_loop, xf47l0, xf47l1, hl, h0, h1, e3, h25, minOn, seaTop, xresult, xrets]
  · have hfr := sea_free l
    refine call2 (v := .tup [.int .i64 (minOn l d).1, .int .i64 (minOn l d).2]) hX.h47 (by simp [AVal.strip, AVal.free, freeL_strip hfr, hfr]) rfl (by decide) ?_ rfl σ
    intro tm hl h0 h1
    simp only [AVal.strip, freeL_strip hfr] at h0 h1
    replace hl : tm.length = 104 := hl
    have hA := fun tm σ h1 h2 h3 h4 => out_of (loop47a hX hn (l.any Sea.bad) l.length 0 (by omega) (by simp) (.int .i64 d) tm σ h1 h2 h3 h4)
    have hB := fun tm σ h1 h2 h3 h4 h5 => out_of (loop47b hX hn (d.tmod 365) l.length 0 (by omega) 0 tm σ h1 h2 h3 h4 h5)
    simp only [List.drop_zero] at hA hB
    unfold Gives
    by_cases e0 : 12 < l.length
    · have e1 : (12 : Int) < (l.length : Int) := by omega
      simp (maxDischargeDepth := 9) [xf47, hl, h0, h1, e0, e1, minOn, xresult, xrets]
    · have e1 : ¬ (12 : Int) < (l.length : Int) := by omega
      cases e2 : l.any Sea.bad
      · simp only [e2, Bool.false_eq_true, if_false] at hA
        cases e3 : wi d 0 100000 <;> simp (maxDischargeDepth := 9) [xf47, hl, h0, h1, e0, e1, e2, e3, h25, hA, hB, minOn, xresult, xrets]
      · simp only [e2, if_true] at hA
        simp (maxDischargeDepth := 9) [xf47, hl, h0, h1, e0, e1, e2, h25, hA, minOn, xresult, xrets]
end
end Go.Proofs.Ytbpflcilndinfaa.Eng
