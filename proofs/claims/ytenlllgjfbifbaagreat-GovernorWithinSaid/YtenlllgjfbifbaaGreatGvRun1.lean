/-
  GOVERNOR: gates, rules, steps; mathematics.
-/
import Derived.Test.YtenlllgjfbifbaaGreatEngLoop
import Derived.Test.YtenlllgjfbifbaaGreatCode1
import Derived.Test.YtenlllgjfbifbaaGreatEng6
namespace Go.Proofs.YtenlllgjfbifbaaGreat.Eng
set_option linter.unusedSimpArgs false
set_option linter.unusedVariables false
def win (a b c : Int) : Bool := decide (b ≤ a) && decide (a ≤ c)
theorem win_iff {a b c : Int} : win a b c = true ↔ b ≤ a ∧ a ≤ c := by simp [win]
def firstNZ : List Int → Int
  | [] => 0
  | e :: l => if e = 0 then firstNZ l else e
/-- A gate. -/
structure Gt where
  p : Int
  lo : Int
  hi : Int
  r : Int
def Gt.enc (g : Gt) : AVal := .agg [.int .i64 g.p, .int .i64 g.lo, .int .i64 g.hi, .int .i64 g.r]
def Gt.e (g : Gt) : Int := if win g.lo 0 10000 && win g.hi 0 10000 && win g.p 0 10000 && win g.r 1 10000 then (if g.lo ≤ g.hi then (if win g.p g.lo g.hi then 0 else 22) else 9) else 2
structure Gt.Ok (g : Gt) : Prop where
  l0 : 0 ≤ g.lo
  h0 : g.hi ≤ 10000
  p0 : g.lo ≤ g.p
  p1 : g.p ≤ g.hi
  r0 : 1 ≤ g.r
  r1 : g.r ≤ 10000
theorem Gt.ok {g : Gt} (h : g.e = 0) : g.Ok := by
  unfold Gt.e at h
  split at h
  · rename_i h1
    simp only [Bool.and_eq_true, win_iff] at h1
    split at h
    · split at h
      · rename_i h2
        have h2 := win_iff.1 h2
        exact ⟨h1.1.1.1.1, h1.1.1.2.2, h2.1, h2.2, h1.2.1, h1.2.2⟩
      · omega
    · omega
  · omega
theorem Gt.e_ok {g : Gt} (h : g.Ok) : g.e = 0 := by
  have l0 := h.l0; have h0 := h.h0; have p0 := h.p0; have p1 := h.p1; have r0 := h.r0; have r1 := h.r1
  unfold Gt.e
  rw [if_pos (by simp only [Bool.and_eq_true, win_iff]; omega), if_pos (by omega), if_pos (by rw [win_iff]; omega)]
/-- Rules. -/
structure Rl where
  b : Int
  n : Int
  d : Int
  s : Int
def Rl.enc (r : Rl) : AVal := .agg [.int .i64 r.b, .int .i64 r.n, .int .i64 r.d, .int .i64 r.s]
def Rl.e (r : Rl) : Int := if win r.b 0 100000 && win r.n 0 1000 && win r.d 1 1000 && win r.s 0 10000 then 0 else 2
structure Rl.Ok (r : Rl) : Prop where
  b0 : 0 ≤ r.b
  b1 : r.b ≤ 100000
  n0 : 0 ≤ r.n
  n1 : r.n ≤ 1000
  d0 : 1 ≤ r.d
  d1 : r.d ≤ 1000
  s0 : 0 ≤ r.s
  s1 : r.s ≤ 10000
theorem Rl.ok {r : Rl} (h : r.e = 0) : r.Ok := by
  unfold Rl.e at h
  split at h
  · rename_i h1
    simp only [Bool.and_eq_true, win_iff] at h1
    exact ⟨h1.1.1.1.1, h1.1.1.1.2, h1.1.1.2.1, h1.1.1.2.2, h1.1.2.1, h1.1.2.2, h1.2.1, h1.2.2⟩
  · omega
def spE (n : Int) : Int := if win n (-100000) 100000 then 0 else 2
theorem spE_ok {n : Int} (h : spE n = 0) : -100000 ≤ n ∧ n ≤ 100000 := by
  unfold spE at h; split at h
  · rename_i c; exact win_iff.1 c
  · omega
def imax (a b : Int) : Int := if a < b then b else a
def imin (a b : Int) : Int := if b < a then b else a
theorem xmm_max (k k' : IntKind) (x y : Int) : xmm true (.int k x) (.int k' y) = some (.int k (imax x y)) := rfl
theorem xmm_min (k k' : IntKind) (x y : Int) : xmm false (.int k x) (.int k' y) = some (.int k (imin x y)) := rfl
/-- A number, moved into a range. -/
def mv (n lo hi : Int) : Int := imin (imax n lo) hi
def sz (n : Int) : Int := imax n (-n)
theorem mv_in {n lo hi : Int} (h : lo ≤ hi) : lo ≤ mv n lo hi ∧ mv n lo hi ≤ hi := by unfold mv imin imax; (repeat' split) <;> omega
/-- The wanted position, as the program finds it. -/
def wanP (r : Rl) (d : Int) : Int := r.s - (r.n * (d - mv d (-r.b) r.b)).tdiv r.d
/-- And as the reference does. -/
def wanV (r : Rl) (d : Int) : Int := if r.b < d then r.s - (r.n * (d - r.b)).tdiv r.d else if d < -r.b then r.s + (r.n * (-d - r.b)).tdiv r.d else r.s
theorem wan_eq {r : Rl} (h : r.Ok) (d : Int) : wanP r d = wanV r d := by
  have b0 := h.b0
  unfold wanP wanV
  by_cases c1 : r.b < d
  · have : mv d (-r.b) r.b = r.b := by unfold mv imin imax; (repeat' split) <;> omega
    rw [this, if_pos c1]
  · rw [if_neg c1]
    by_cases c2 : d < -r.b
    · have : mv d (-r.b) r.b = -r.b := by unfold mv imin imax; (repeat' split) <;> omega
      rw [this, if_pos c2, show d - -r.b = -(-d - r.b) from by omega, Int.mul_neg, Int.neg_tdiv]
      omega
    · have : mv d (-r.b) r.b = d := by unfold mv imin imax; (repeat' split) <;> omega
      rw [this, if_neg c2, Int.sub_self, Int.mul_zero, Int.zero_tdiv]
      omega
theorem tdv_bd {x d M : Int} (hd : 1 ≤ d) (h1 : 0 ≤ x) (h2 : x ≤ M) : 0 ≤ x.tdiv d ∧ x.tdiv d ≤ M := by
  rw [Int.tdiv_eq_ediv_of_nonneg h1]
  have := Int.ediv_le_self d h1
  have := Int.ediv_nonneg h1 (by omega : 0 ≤ d)
  omega
theorem mul_le {a b A B : Int} (a0 : 0 ≤ a) (a1 : a ≤ A) (b0 : 0 ≤ b) (b1 : b ≤ B) : 0 ≤ a * b ∧ a * b ≤ A * B := by
  have h1 := Int.mul_nonneg a0 b0
  have h2 : a * b ≤ A * b := Int.mul_le_mul_of_nonneg_right a1 b0
  have h3 : A * b ≤ A * B := Int.mul_le_mul_of_nonneg_left b1 (by omega)
  omega
theorem wrp {n : Int} (h1 : -1000000000000000000 ≤ n) (h2 : n ≤ 1000000000000000000) : IntKind.i64.wrap n = n := by rw [wrap_i64] <;> omega
/-- What the wanted position is computed from. -/
structure WOk (r : Rl) (d : Int) : Prop where
  z : ¬ r.d = 0
  wb : IntKind.i64.wrap (-r.b) = -r.b
  w1 : IntKind.i64.wrap (d - mv d (-r.b) r.b) = d - mv d (-r.b) r.b
  w2 : IntKind.i64.wrap (r.n * (d - mv d (-r.b) r.b)) = r.n * (d - mv d (-r.b) r.b)
  w3 : IntKind.i64.wrap ((r.n * (d - mv d (-r.b) r.b)).tdiv r.d) = (r.n * (d - mv d (-r.b) r.b)).tdiv r.d
  w4 : IntKind.i64.wrap (wanP r d) = wanP r d
  lo : -100000000 ≤ wanP r d
  hi : wanP r d ≤ 100010000
theorem w_ok {r : Rl} (h : r.Ok) {d : Int} (d0 : -100000 ≤ d) (d1 : d ≤ 100000) : WOk r d := by
  have b0 := h.b0; have b1 := h.b1; have n0 := h.n0; have n1 := h.n1; have e0 := h.d0; have e1 := h.d1; have s0 := h.s0; have s1 := h.s1
  have hx : -100000 ≤ d - mv d (-r.b) r.b ∧ d - mv d (-r.b) r.b ≤ 100000 := by unfold mv imin imax; (repeat' split) <;> omega
  generalize hX : d - mv d (-r.b) r.b = x at hx
  have hp : -100000000 ≤ r.n * x ∧ r.n * x ≤ 100000000 := by
    rcases Int.le_total 0 x with c | c
    · have := mul_le (A := 1000) (B := 100000) n0 n1 c hx.2; omega
    · have := mul_le (A := 1000) (B := 100000) n0 n1 (b := -x) (by omega) (by omega)
      rw [Int.mul_neg] at this; omega
  have hq : -100000000 ≤ (r.n * x).tdiv r.d ∧ (r.n * x).tdiv r.d ≤ 100000000 := by
    rcases Int.le_total 0 (r.n * x) with c | c
    · have := tdv_bd (M := 100000000) e0 c hp.2; omega
    · have := tdv_bd (M := 100000000) (x := -(r.n * x)) e0 (by omega) (by omega)
      rw [Int.neg_tdiv] at this; omega
  have hw : wanP r d = r.s - (r.n * x).tdiv r.d := by unfold wanP; rw [hX]
  refine ⟨by omega, wrp (by omega) (by omega), ?_, ?_, ?_, ?_, ?_, ?_⟩
  · rw [hX]; exact wrp (by omega) (by omega)
  · rw [hX]; exact wrp (by omega) (by omega)
  · rw [hX]; exact wrp (by omega) (by omega)
  · rw [hw]; exact wrp (by omega) (by omega)
  · rw [hw]; omega
  · rw [hw]; omega
/-- What the reference's wanted position is computed from. -/
structure VOk (r : Rl) (d : Int) : Prop where
  z : ¬ r.d = 0
  wb : IntKind.i64.wrap (-r.b) = -r.b
  wd : IntKind.i64.wrap (-d) = -d
  a1 : IntKind.i64.wrap (d - r.b) = d - r.b
  a2 : IntKind.i64.wrap (r.n * (d - r.b)) = r.n * (d - r.b)
  a3 : IntKind.i64.wrap ((r.n * (d - r.b)).tdiv r.d) = (r.n * (d - r.b)).tdiv r.d
  a4 : IntKind.i64.wrap (r.s - (r.n * (d - r.b)).tdiv r.d) = r.s - (r.n * (d - r.b)).tdiv r.d
  b1 : IntKind.i64.wrap (-d - r.b) = -d - r.b
  b2 : IntKind.i64.wrap (r.n * (-d - r.b)) = r.n * (-d - r.b)
  b3 : IntKind.i64.wrap ((r.n * (-d - r.b)).tdiv r.d) = (r.n * (-d - r.b)).tdiv r.d
  b4 : IntKind.i64.wrap (r.s + (r.n * (-d - r.b)).tdiv r.d) = r.s + (r.n * (-d - r.b)).tdiv r.d
theorem quo_in {n x d : Int} (n0 : 0 ≤ n) (n1 : n ≤ 1000) (e0 : 1 ≤ d) (x0 : -300000 ≤ x) (x1 : x ≤ 300000) : (-300000000 ≤ n * x ∧ n * x ≤ 300000000) ∧ -300000000 ≤ (n * x).tdiv d ∧ (n * x).tdiv d ≤ 300000000 := by
  have hp : -300000000 ≤ n * x ∧ n * x ≤ 300000000 := by
    rcases Int.le_total 0 x with c | c
    · have := mul_le (A := 1000) (B := 300000) n0 n1 c x1; omega
    · have := mul_le (A := 1000) (B := 300000) n0 n1 (b := -x) (by omega) (by omega)
      rw [Int.mul_neg] at this; omega
  refine ⟨hp, ?_⟩
  rcases Int.le_total 0 (n * x) with c | c
  · have := tdv_bd (M := 300000000) e0 c hp.2; omega
  · have := tdv_bd (M := 300000000) (x := -(n * x)) e0 (by omega) (by omega)
    rw [Int.neg_tdiv] at this; omega
theorem v_ok {r : Rl} (h : r.Ok) {d : Int} (d0 : -100000 ≤ d) (d1 : d ≤ 100000) : VOk r d := by
  have b0 := h.b0; have b1 := h.b1; have n0 := h.n0; have n1 := h.n1; have e0 := h.d0; have e1 := h.d1; have s0 := h.s0; have s1 := h.s1
  have q1 := quo_in (n := r.n) (x := d - r.b) (d := r.d) n0 n1 e0 (by omega) (by omega)
  have q2 := quo_in (n := r.n) (x := -d - r.b) (d := r.d) n0 n1 e0 (by omega) (by omega)
  refine ⟨by omega, ?_, ?_, ?_, ?_, ?_, ?_, ?_, ?_, ?_, ?_⟩ <;> exact wrp (by omega) (by omega)
/-- Where a gate goes, and where it is after a step. -/
def goalP (g : Gt) (w : Int) : Int := mv w g.lo g.hi
def stepP (g : Gt) (w : Int) : Int := g.p + mv (goalP g w - g.p) (-g.r) g.r
def goalV (g : Gt) (w : Int) : Int := imax g.lo (imin g.hi w)
def stepV (g : Gt) (w : Int) : Int := imax (g.p - g.r) (imin (g.p + g.r) (goalV g w))
theorem goal_eq {g : Gt} (h : g.Ok) (w : Int) : goalV g w = goalP g w := by
  have p0 := h.p0; have p1 := h.p1
  unfold goalV goalP mv imin imax; (repeat' split) <;> omega
theorem step_eq {g : Gt} (h : g.Ok) (w : Int) : stepV g w = stepP g w := by
  have r0 := h.r0
  have e := goal_eq h w
  unfold stepV stepP; rw [e]
  unfold mv imin imax; (repeat' split) <;> omega
theorem goal_in {g : Gt} (h : g.Ok) (w : Int) : g.lo ≤ goalP g w ∧ goalP g w ≤ g.hi := by
  have p0 := h.p0; have p1 := h.p1
  exact mv_in (by omega)
def Gt.to (g : Gt) (p : Int) : Gt := ⟨p, g.lo, g.hi, g.r⟩
theorem Gt.to_ok {g : Gt} (h : g.Ok) {p : Int} (p0 : g.lo ≤ p) (p1 : p ≤ g.hi) : (g.to p).Ok := ⟨h.l0, h.h0, p0, p1, h.r0, h.r1⟩
theorem step_in {g : Gt} (h : g.Ok) (w : Int) : g.lo ≤ stepP g w ∧ stepP g w ≤ g.hi ∧ g.p - g.r ≤ stepP g w ∧ stepP g w ≤ g.p + g.r := by
  have p0 := h.p0; have p1 := h.p1; have r0 := h.r0
  have b := goal_in h w
  unfold stepP mv imin imax; (repeat' split) <;> omega
/-- How many steps there are to a position. -/
def ticksP (g : Gt) (w : Int) : Int := (sz (goalP g w - g.p) + g.r - 1).tdiv g.r
theorem ticks_step {g : Gt} (h : g.Ok) (w : Int) (hne : g.p ≠ goalP g w) : ticksP g w = 1 + ticksP (g.to (stepP g w)) w := by
  have r0 := h.r0
  have e : goalP (g.to (stepP g w)) w = goalP g w := rfl
  unfold ticksP
  rw [e]
  show _ = 1 + (sz (goalP g w - stepP g w) + g.r - 1).tdiv g.r
  generalize hG : goalP g w = G at *
  have hs : stepP g w = g.p + mv (G - g.p) (-g.r) g.r := by unfold stepP; rw [hG]
  rw [hs]
  generalize g.p = p at *
  generalize g.r = r at *
  have hD : 1 ≤ sz (G - p) := by unfold sz imax; split <;> omega
  have hD2 : sz (G - (p + mv (G - p) (-r) r)) = if sz (G - p) ≤ r then 0 else sz (G - p) - r := by
    unfold sz mv imin imax
    repeat' split
    all_goals omega
  rw [hD2]
  generalize sz (G - p) = D at *
  split
  · rename_i c
    have e1 : D + r - 1 = (D - 1) + r * 1 := by omega
    rw [Int.tdiv_eq_ediv_of_nonneg (by omega), Int.tdiv_eq_ediv_of_nonneg (by omega), e1, Int.add_mul_ediv_left _ _ (by omega), Int.ediv_eq_zero_of_lt (by omega) (by omega), Int.ediv_eq_zero_of_lt (by omega) (by omega)]
    omega
  · rename_i c
    have e1 : D + r - 1 = (D - r + r - 1) + r * 1 := by omega
    rw [Int.tdiv_eq_ediv_of_nonneg (by omega), Int.tdiv_eq_ediv_of_nonneg (by omega), e1, Int.add_mul_ediv_left _ _ (by omega)]
    omega
theorem ticks_zero {g : Gt} (h : g.Ok) (w : Int) (he : g.p = goalP g w) : ticksP g w = 0 := by
  have r0 := h.r0
  unfold ticksP
  rw [← he, Int.sub_self]
  have : sz 0 = 0 := rfl
  rw [this, Int.tdiv_eq_ediv_of_nonneg (by omega), Int.ediv_eq_zero_of_lt (by omega) (by omega)]
theorem near_step {g : Gt} (h : g.Ok) (w : Int) (hne : g.p ≠ goalP g w) : (goalP g w - stepP g w).natAbs < (goalP g w - g.p).natAbs := by
  have r0 := h.r0
  unfold stepP mv imin imax; (repeat' split) <;> omega
structure TOk (g : Gt) (w : Int) : Prop where
  z : ¬ g.r = 0
  s1 : IntKind.i64.wrap (goalP g w - g.p) = goalP g w - g.p
  n1 : IntKind.i64.wrap (-(goalP g w - g.p)) = -(goalP g w - g.p)
  a1 : IntKind.i64.wrap (sz (goalP g w - g.p) + g.r) = sz (goalP g w - g.p) + g.r
  a2 : IntKind.i64.wrap (sz (goalP g w - g.p) + g.r - 1) = sz (goalP g w - g.p) + g.r - 1
  a3 : IntKind.i64.wrap (ticksP g w) = ticksP g w
  nr : IntKind.i64.wrap (-g.r) = -g.r
  st : IntKind.i64.wrap (stepP g w) = stepP g w
  v1 : IntKind.i64.wrap (g.p - g.r) = g.p - g.r
  v2 : IntKind.i64.wrap (g.p + g.r) = g.p + g.r
  lo : 0 ≤ ticksP g w
  hi : ticksP g w ≤ 10000
theorem t_ok {g : Gt} (h : g.Ok) (w : Int) : TOk g w := by
  have l0 := h.l0; have h0 := h.h0; have p0 := h.p0; have p1 := h.p1; have r0 := h.r0; have r1 := h.r1
  have b := goal_in h w
  have s := step_in h w
  have hs : 0 ≤ sz (goalP g w - g.p) ∧ sz (goalP g w - g.p) ≤ 10000 := by unfold sz imax; split <;> omega
  have ht : 0 ≤ ticksP g w ∧ ticksP g w ≤ 10000 := by
    unfold ticksP
    rw [Int.tdiv_eq_ediv_of_nonneg (by omega)]
    generalize sz (goalP g w - g.p) = D at hs
    refine ⟨Int.ediv_nonneg (by omega) (by omega), ?_⟩
    have : D + g.r - 1 = (D - 1) + g.r * 1 := by omega
    rw [this, Int.add_mul_ediv_left _ _ (by omega)]
    by_cases c : D = 0
    · subst c
      have : (0 - 1 : Int) / g.r = -1 := by
        rw [Int.ediv_eq_iff_of_pos (by omega)]; omega
      omega
    · have := Int.ediv_le_self g.r (a := D - 1) (by omega)
      omega
  refine ⟨by omega, ?_, ?_, ?_, ?_, ?_, ?_, ?_, ?_, ?_, ht.1, ht.2⟩ <;> exact wrp (by omega) (by omega)
end Go.Proofs.YtenlllgjfbifbaaGreat.Eng

/-
  GOVERNOR: gates, rules, steps: small functions.
-/
namespace Go.Proofs.YtenlllgjfbifbaaGreat.Eng
set_option linter.unusedSimpArgs false
set_option linter.unusedVariables false
section
variable {X : FuncId → Option XFunc} (hX : GvACode X)
include hX
theorem u29 (a b c : Int) (σ : Store) : Run X (.call 29) [.int .i64 a, .int .i64 b, .int .i64 c] σ = some (.ret, [.bool (win a b c)], σ) := by
  refine call3 (X := X) (a := .int .i64 a) (b := .int .i64 b) (c := .int .i64 c) (v := .bool (win a b c)) hX.h29 rfl rfl rfl (by decide) (fun tm hl h0 h1 h2 => ?_) rfl σ
  simp only [AVal.strip, stripL] at h0 h1 h2
  replace hl : tm.length = 15 := hl
  unfold Gives
  by_cases e1 : b ≤ a <;> simp [xf29, hl, h0, h1, h2, e1, win]
theorem u80 (a b c : Int) (σ : Store) : Run X (.call 80) [.int .i64 a, .int .i64 b, .int .i64 c] σ = some (.ret, [.bool (win a b c)], σ) := by
  refine call3 (X := X) (a := .int .i64 a) (b := .int .i64 b) (c := .int .i64 c) (v := .bool (win a b c)) hX.h80 rfl rfl rfl (by decide) (fun tm hl h0 h1 h2 => ?_) rfl σ
  simp only [AVal.strip, stripL] at h0 h1 h2
  replace hl : tm.length = 15 := hl
  unfold Gives
  by_cases e1 : b ≤ a <;> simp [xf80, hl, h0, h1, h2, e1, win]
theorem u79 (c : Bool) (e : Int) (σ : Store) : Run X (.call 79) [.bool c, .int .i64 e] σ = some (.ret, [.int .i64 (if c then 0 else e)], σ) := by
  refine call2 (X := X) (a := .bool c) (b := .int .i64 e) (v := .int .i64 (if c then 0 else e)) hX.h79 rfl rfl (by decide) (fun tm hl h0 h1 => ?_) rfl σ
  simp only [AVal.strip, stripL] at h0 h1
  replace hl : tm.length = 7 := hl
  unfold Gives
  cases c <;> simp [xf79, hl, h0, h1]
theorem u78 (a b c : Int) (σ : Store) : Run X (.call 78) [.int .i64 a, .int .i64 b, .int .i64 c] σ = some (.ret, [.int .i64 (if win a b c then 0 else 2)], σ) := by
  refine call3 (X := X) (a := .int .i64 a) (b := .int .i64 b) (c := .int .i64 c) (v := .int .i64 (if win a b c then 0 else 2)) hX.h78 rfl rfl rfl (by decide) (fun tm hl h0 h1 h2 => ?_) rfl σ
  simp only [AVal.strip, stripL] at h0 h1 h2
  replace hl : tm.length = 12 := hl
  unfold Gives
  simp [xf78, hl, h0, h1, h2, u80 hX, u79 hX]
theorem u98 {a s : Int} (hs : IntKind.i64.wrap (-s) = -s) (σ : Store) : Run X (.call 98) [.int .i64 a, .int .i64 s] σ = some (.ret, [.int .i64 (if win a (-s) s then 0 else 2)], σ) := by
  refine call2 (X := X) (a := .int .i64 a) (b := .int .i64 s) (v := .int .i64 (if win a (-s) s then 0 else 2)) hX.h98 rfl rfl (by decide) (fun tm hl h0 h1 => ?_) rfl σ
  simp only [AVal.strip, stripL] at h0 h1
  replace hl : tm.length = 10 := hl
  unfold Gives
  simp [xf98, hl, h0, h1, u78 hX, hs]
theorem u77 (a : Int) (σ : Store) : Run X (.call 77) [.int .i64 a] σ = some (.ret, [.int .i64 (if win a 0 10000 then 0 else 2)], σ) := by
  refine call1 (X := X) (a := .int .i64 a) (v := .int .i64 (if win a 0 10000 then 0 else 2)) hX.h77 rfl (by decide) (fun tm hl h0 => ?_) rfl σ
  simp only [AVal.strip, stripL] at h0
  replace hl : tm.length = 5 := hl
  unfold Gives
  simp [xf77, hl, h0, u78 hX]
theorem u72 (a : Int) (σ : Store) : Run X (.call 72) [.int .i64 a] σ = some (.ret, [.int .i64 (spE a)], σ) := by
  refine call1 (X := X) (a := .int .i64 a) (v := .int .i64 (spE a)) hX.h72 rfl (by decide) (fun tm hl h0 => ?_) rfl σ
  simp only [AVal.strip, stripL] at h0
  replace hl : tm.length = 5 := hl
  unfold Gives
  have := fun σ => u98 hX (a := a) (s := 100000) (by rw [wrap_i64] <;> omega) σ
  unfold spE
  simp [xf72, hl, h0, this]
theorem u20 (a : Int) (σ : Store) : Run X (.call 20) [.int .i64 a] σ = some (.ret, [.int .i64 (spE a)], σ) := by
  refine call1 (X := X) (a := .int .i64 a) (v := .int .i64 (spE a)) hX.h20 rfl (by decide) (fun tm hl h0 => ?_) rfl σ
  simp only [AVal.strip, stripL] at h0
  replace hl : tm.length = 6 := hl
  unfold Gives
  unfold spE
  cases c : win a (-100000) 100000 <;> simp [xf20, hl, h0, u29 hX, c]
theorem u75 {a : Int} (hw : IntKind.i64.wrap (-a) = -a) (σ : Store) : Run X (.call 75) [.int .i64 a] σ = some (.ret, [.int .i64 (sz a)], σ) := by
  refine call1 (X := X) (a := .int .i64 a) (v := .int .i64 (sz a)) hX.h75 rfl (by decide) (fun tm hl h0 => ?_) rfl σ
  simp only [AVal.strip, stripL] at h0
  replace hl : tm.length = 7 := hl
  unfold Gives
  simp [xf75, hl, h0, hw, xext, xmm_max, sz]
  rfl
theorem u123 (n lo hi : Int) (σ : Store) : Run X (.call 123) [.int .i64 n, .int .i64 lo, .int .i64 hi] σ = some (.ret, [.int .i64 (mv n lo hi)], σ) := by
  refine call3 (X := X) (a := .int .i64 n) (b := .int .i64 lo) (c := .int .i64 hi) (v := .int .i64 (mv n lo hi)) hX.h123 rfl rfl rfl (by decide) (fun tm hl h0 h1 h2 => ?_) rfl σ
  simp only [AVal.strip, stripL] at h0 h1 h2
  replace hl : tm.length = 12 := hl
  unfold Gives
  simp [xf123, hl, h0, h1, h2, xext, xmm_max, xmm_min, mv]
  rfl
omit hX in
theorem loop71 (es : List Int) (hn : es.length ≤ 1000000000) : ∀ (k i : Nat), i + k = es.length → ∀ (tm : List AVal) (σ : Store), tm.length = 15 → XOpd.eval tm (.t 5) = .list 1 (es.map (.int .i64)) none → XOpd.eval tm (.t 6) = .int .i64 es.length → XOpd.eval tm (.t 7) = .int .i64 i →
    Ends (Run X (.code (.loop xf71l0)) tm σ) (if firstNZ (es.drop i) = 0 then .exit 0 else .ret) fun tm' _ => tm'.length = 15 ∧ (firstNZ (es.drop i) ≠ 0 → XOpd.eval tm' (.t 2) = .int .i64 (firstNZ (es.drop i)))
  | 0, i, hk, tm, σ, hl, h5, h6, h7 => by
    have hi : i = es.length := by omega
    subst hi
    rw [Run_loop]
    simp [xf71l0, hl, h5, h6, h7, firstNZ]
  | k + 1, i, hk, tm, σ, hl, h5, h6, h7 => by
    have hi : i < es.length := by omega
    have hd : es.drop i = es[i] :: es.drop (i + 1) := List.drop_eq_getElem_cons hi
    have hw : IntKind.i64.wrap ((i : Int) + 1) = ((i + 1 : Nat) : Int) := by rw [wrap_i64] <;> omega
    rw [Run_loop, hd]
    by_cases he : es[i] = 0
    · have ih := loop71 es hn k (i + 1) (by omega)
      simp only [firstNZ, he, if_true]
      simp [xf71l0, hl, h5, h6, h7, hi, he, hw, xload, AVal.cells]
      exact ih _ _ (by simp [hl]) (by simp [hl, h5]) (by simp [hl, h6]) (by simp [hl])
    · simp only [firstNZ, he, if_false]
      simp [xf71l0, hl, h5, h6, h7, hi, he, xload, AVal.cells]
omit hX in
theorem eints_free (es : List Int) : freeL (es.map (AVal.int .i64)) = true := by
  induction es with
  | nil => rfl
  | cons e l ih => simp [freeL, AVal.free, ih]
theorem u71 (es : List Int) (hn : es.length ≤ 1000000000) (tok : Option Nat) (σ : Store) : Run X (.call 71) [.list 1 (es.map (.int .i64)) tok] σ = some (.ret, [.int .i64 (firstNZ es)], σ) := by
  refine call1 (v := .int .i64 (firstNZ es)) hX.h71 (by simp [AVal.strip, AVal.free, freeL_strip (eints_free es), eints_free]) (by decide) (fun tm hl h0 => ?_) rfl σ
  simp only [AVal.strip, freeL_strip (eints_free es)] at h0
  replace hl : tm.length = 15 := hl
  have hL := fun tm σ h1 h2 h3 h4 => out_of (loop71 (X := X) es hn es.length 0 (by omega) tm σ h1 h2 h3 h4)
  simp only [List.drop_zero] at hL
  unfold Gives
  by_cases he : firstNZ es = 0
  · simp only [he, if_true] at hL
    simp (maxDischargeDepth := 9) [xf71, hl, h0, hL, he, xlen]
  · simp only [he, if_false] at hL
    simp (maxDischargeDepth := 9) [xf71, hl, h0, hL, he, xlen]
omit hX in
theorem gate_eq (g : Gt) : firstNZ [if win g.lo 0 10000 then 0 else 2, if win g.hi 0 10000 then 0 else 2, if win g.p 0 10000 then 0 else 2, if win g.r 1 10000 then 0 else 2, if decide (g.lo ≤ g.hi) then 0 else 9, if win g.p g.lo g.hi then 0 else 22] = g.e := by
  unfold Gt.e
  cases c1 : win g.lo 0 10000 <;> cases c2 : win g.hi 0 10000 <;> cases c3 : win g.p 0 10000 <;> cases c4 : win g.r 1 10000 <;> by_cases c5 : g.lo ≤ g.hi <;> cases c6 : win g.p g.lo g.hi <;> simp [firstNZ, c5]
omit hX in
theorem rules_eq (r : Rl) : firstNZ [if win r.b 0 100000 then 0 else 2, if win r.n 0 1000 then 0 else 2, if win r.d 1 1000 then 0 else 2, if win r.s 0 10000 then 0 else 2] = r.e := by
  unfold Rl.e
  cases c1 : win r.b 0 100000 <;> cases c2 : win r.n 0 1000 <;> cases c3 : win r.d 1 1000 <;> cases c4 : win r.s 0 10000 <;> simp [firstNZ]
set_option maxHeartbeats 4000000 in
theorem u18 (g : Gt) (σ : Store) : Run X (.call 18) [.agg [.int .i64 g.p, .int .i64 g.lo, .int .i64 g.hi, .int .i64 g.r]] σ = some (.ret, [.int .i64 g.e], σ) := by
  refine call1 (X := X) (a := .agg [.int .i64 g.p, .int .i64 g.lo, .int .i64 g.hi, .int .i64 g.r]) (v := .int .i64 g.e) hX.h18 (by simp [AVal.strip, stripL, AVal.free, freeL]) (by decide) (fun tm hl h0 => ?_) rfl σ
  simp only [AVal.strip, stripL] at h0
  replace hl : tm.length = 31 := hl
  unfold Gives
  have u6 := fun a b c d e f tok σ => u71 hX [a, b, c, d, e, f] (by simp) tok σ
  simp only [List.map_cons, List.map_nil] at u6
  rw [← gate_eq]
  simp [xf18, hl, h0, u77 hX, u78 hX, u79 hX, u80 hX, u6, Store.empty, Store.new, Store.put, Store.get, look, putL, setR, Store.only, Store.merge, touch, wrote, upTo, isIn, okRec, hits, capsOf, xcaps, stripL, AVal.strip, freeL, AVal.free, fillR, chunks, mkV, List.filter]
set_option maxHeartbeats 4000000 in
theorem u19 (r : Rl) (σ : Store) : Run X (.call 19) [.agg [.int .i64 r.b, .int .i64 r.n, .int .i64 r.d, .int .i64 r.s]] σ = some (.ret, [.int .i64 r.e], σ) := by
  refine call1 (X := X) (a := .agg [.int .i64 r.b, .int .i64 r.n, .int .i64 r.d, .int .i64 r.s]) (v := .int .i64 r.e) hX.h19 (by simp [AVal.strip, stripL, AVal.free, freeL]) (by decide) (fun tm hl h0 => ?_) rfl σ
  simp only [AVal.strip, stripL] at h0
  replace hl : tm.length = 17 := hl
  unfold Gives
  have u4 := fun a b c d tok σ => u71 hX [a, b, c, d] (by simp) tok σ
  simp only [List.map_cons, List.map_nil] at u4
  rw [← rules_eq]
  simp [xf19, hl, h0, u77 hX, u78 hX, u4, Store.empty, Store.new, Store.put, Store.get, look, putL, setR, Store.only, Store.merge, touch, wrote, upTo, isIn, okRec, hits, capsOf, xcaps, stripL, AVal.strip, freeL, AVal.free, fillR, chunks, mkV, List.filter]
theorem u16 (g : Gt) (σ : Store) : Run X (.call 16) [.agg [.int .i64 g.p, .int .i64 g.lo, .int .i64 g.hi, .int .i64 g.r]] σ = some (.ret, [.int .i64 g.e], σ) := by
  refine call1 (X := X) (a := .agg [.int .i64 g.p, .int .i64 g.lo, .int .i64 g.hi, .int .i64 g.r]) (v := .int .i64 g.e) hX.h16 (by simp [AVal.strip, stripL, AVal.free, freeL]) (by decide) (fun tm hl h0 => ?_) rfl σ
  simp only [AVal.strip, stripL] at h0
  replace hl : tm.length = 38 := hl
  unfold Gives
  unfold Gt.e
  cases c1 : win g.lo 0 10000
  · simp [xf16, hl, h0, u29 hX, c1, Store.empty, Store.new, Store.put, Store.get, look, putL, setR, Store.only, Store.merge, touch, wrote, upTo, isIn, okRec, hits, capsOf, xcaps, stripL, AVal.strip, freeL, AVal.free, fillR, chunks, mkV, List.filter]
  cases c2 : win g.hi 0 10000
  · simp [xf16, hl, h0, u29 hX, c1, c2, Store.empty, Store.new, Store.put, Store.get, look, putL, setR, Store.only, Store.merge, touch, wrote, upTo, isIn, okRec, hits, capsOf, xcaps, stripL, AVal.strip, freeL, AVal.free, fillR, chunks, mkV, List.filter]
  cases c3 : win g.p 0 10000
  · simp [xf16, hl, h0, u29 hX, c1, c2, c3, Store.empty, Store.new, Store.put, Store.get, look, putL, setR, Store.only, Store.merge, touch, wrote, upTo, isIn, okRec, hits, capsOf, xcaps, stripL, AVal.strip, freeL, AVal.free, fillR, chunks, mkV, List.filter]
  cases c4 : win g.r 1 10000
  · simp [xf16, hl, h0, u29 hX, c1, c2, c3, c4, Store.empty, Store.new, Store.put, Store.get, look, putL, setR, Store.only, Store.merge, touch, wrote, upTo, isIn, okRec, hits, capsOf, xcaps, stripL, AVal.strip, freeL, AVal.free, fillR, chunks, mkV, List.filter]
  by_cases c5 : g.lo ≤ g.hi
  · have c5' : ¬ g.hi < g.lo := by omega
    cases c6 : win g.p g.lo g.hi <;> simp [xf16, hl, h0, u29 hX, c1, c2, c3, c4, c5, c5', c6, Store.empty, Store.new, Store.put, Store.get, look, putL, setR, Store.only, Store.merge, touch, wrote, upTo, isIn, okRec, hits, capsOf, xcaps, stripL, AVal.strip, freeL, AVal.free, fillR, chunks, mkV, List.filter]
  · have c5' : g.hi < g.lo := by omega
    simp [xf16, hl, h0, u29 hX, c1, c2, c3, c4, c5, c5', Store.empty, Store.new, Store.put, Store.get, look, putL, setR, Store.only, Store.merge, touch, wrote, upTo, isIn, okRec, hits, capsOf, xcaps, stripL, AVal.strip, freeL, AVal.free, fillR, chunks, mkV, List.filter]
theorem u17 (r : Rl) (σ : Store) : Run X (.call 17) [.agg [.int .i64 r.b, .int .i64 r.n, .int .i64 r.d, .int .i64 r.s]] σ = some (.ret, [.int .i64 r.e], σ) := by
  refine call1 (X := X) (a := .agg [.int .i64 r.b, .int .i64 r.n, .int .i64 r.d, .int .i64 r.s]) (v := .int .i64 r.e) hX.h17 (by simp [AVal.strip, stripL, AVal.free, freeL]) (by decide) (fun tm hl h0 => ?_) rfl σ
  simp only [AVal.strip, stripL] at h0
  replace hl : tm.length = 25 := hl
  unfold Gives
  unfold Rl.e
  cases c1 : win r.b 0 100000
  · simp [xf17, hl, h0, u29 hX, c1, Store.empty, Store.new, Store.put, Store.get, look, putL, setR, Store.only, Store.merge, touch, wrote, upTo, isIn, okRec, hits, capsOf, xcaps, stripL, AVal.strip, freeL, AVal.free, fillR, chunks, mkV, List.filter]
  cases c2 : win r.n 0 1000
  · simp [xf17, hl, h0, u29 hX, c1, c2, Store.empty, Store.new, Store.put, Store.get, look, putL, setR, Store.only, Store.merge, touch, wrote, upTo, isIn, okRec, hits, capsOf, xcaps, stripL, AVal.strip, freeL, AVal.free, fillR, chunks, mkV, List.filter]
  cases c3 : win r.d 1 1000
  · simp [xf17, hl, h0, u29 hX, c1, c2, c3, Store.empty, Store.new, Store.put, Store.get, look, putL, setR, Store.only, Store.merge, touch, wrote, upTo, isIn, okRec, hits, capsOf, xcaps, stripL, AVal.strip, freeL, AVal.free, fillR, chunks, mkV, List.filter]
  cases c4 : win r.s 0 10000 <;> simp [xf17, hl, h0, u29 hX, c1, c2, c3, c4, Store.empty, Store.new, Store.put, Store.get, look, putL, setR, Store.only, Store.merge, touch, wrote, upTo, isIn, okRec, hits, capsOf, xcaps, stripL, AVal.strip, freeL, AVal.free, fillR, chunks, mkV, List.filter]
theorem u73 {r : Rl} {d : Int} (k : WOk r d) (σ : Store) : Run X (.call 73) [.agg [.int .i64 r.b, .int .i64 r.n, .int .i64 r.d, .int .i64 r.s], .int .i64 d] σ = some (.ret, [.int .i64 (wanP r d)], σ) := by
  refine call2 (X := X) (a := .agg [.int .i64 r.b, .int .i64 r.n, .int .i64 r.d, .int .i64 r.s]) (b := .int .i64 d) (v := .int .i64 (wanP r d)) hX.h73 (by simp [AVal.strip, stripL, AVal.free, freeL]) rfl (by decide) (fun tm hl h0 h1 => ?_) rfl σ
  simp only [AVal.strip, stripL] at h0 h1
  replace hl : tm.length = 25 := hl
  unfold Gives
  have w4 := k.w4
  unfold wanP at w4 ⊢
  simp [xf73, hl, h0, h1, u123 hX, k.wb, k.w1, k.w2, k.w3, w4, k.z, Store.empty, Store.new, Store.put, Store.get, look, putL, setR, Store.only, Store.merge, touch, wrote, upTo, isIn, okRec, hits, capsOf, xcaps, stripL, AVal.strip, freeL, AVal.free, fillR, chunks, mkV, List.filter]
theorem u21 {r : Rl} {d : Int} (k : VOk r d) (σ : Store) : Run X (.call 21) [.agg [.int .i64 r.b, .int .i64 r.n, .int .i64 r.d, .int .i64 r.s], .int .i64 d] σ = some (.ret, [.int .i64 (wanV r d)], σ) := by
  refine call2 (X := X) (a := .agg [.int .i64 r.b, .int .i64 r.n, .int .i64 r.d, .int .i64 r.s]) (b := .int .i64 d) (v := .int .i64 (wanV r d)) hX.h21 (by simp [AVal.strip, stripL, AVal.free, freeL]) rfl (by decide) (fun tm hl h0 h1 => ?_) rfl σ
  simp only [AVal.strip, stripL] at h0 h1
  replace hl : tm.length = 45 := hl
  unfold Gives
  unfold wanV
  by_cases c1 : r.b < d
  · simp [xf21, hl, h0, h1, k.wb, k.a1, k.a2, k.a3, k.a4, k.z, c1, Store.empty, Store.new, Store.put, Store.get, look, putL, setR, Store.only, Store.merge, touch, wrote, upTo, isIn, okRec, hits, capsOf, xcaps, stripL, AVal.strip, freeL, AVal.free, fillR, chunks, mkV, List.filter]
  · by_cases c2 : d < -r.b
    · simp [xf21, hl, h0, h1, k.wb, k.wd, k.b1, k.b2, k.b3, k.b4, k.z, c1, c2, Store.empty, Store.new, Store.put, Store.get, look, putL, setR, Store.only, Store.merge, touch, wrote, upTo, isIn, okRec, hits, capsOf, xcaps, stripL, AVal.strip, freeL, AVal.free, fillR, chunks, mkV, List.filter]
    · simp [xf21, hl, h0, h1, k.wb, c1, c2, Store.empty, Store.new, Store.put, Store.get, look, putL, setR, Store.only, Store.merge, touch, wrote, upTo, isIn, okRec, hits, capsOf, xcaps, stripL, AVal.strip, freeL, AVal.free, fillR, chunks, mkV, List.filter]
theorem u76 (g : Gt) (w : Int) (σ : Store) : Run X (.call 76) [.agg [.int .i64 g.p, .int .i64 g.lo, .int .i64 g.hi, .int .i64 g.r], .int .i64 w] σ = some (.ret, [.int .i64 (goalP g w)], σ) := by
  refine call2 (X := X) (a := .agg [.int .i64 g.p, .int .i64 g.lo, .int .i64 g.hi, .int .i64 g.r]) (b := .int .i64 w) (v := .int .i64 (goalP g w)) hX.h76 (by simp [AVal.strip, stripL, AVal.free, freeL]) rfl (by decide) (fun tm hl h0 h1 => ?_) rfl σ
  simp only [AVal.strip, stripL] at h0 h1
  replace hl : tm.length = 11 := hl
  unfold Gives
  unfold goalP
  simp [xf76, hl, h0, h1, u123 hX, Store.empty, Store.new, Store.put, Store.get, look, putL, setR, Store.only, Store.merge, touch, wrote, upTo, isIn, okRec, hits, capsOf, xcaps, stripL, AVal.strip, freeL, AVal.free, fillR, chunks, mkV, List.filter]
theorem u74 {g : Gt} {w : Int} (k : TOk g w) (σ : Store) : Run X (.call 74) [.agg [.int .i64 g.p, .int .i64 g.lo, .int .i64 g.hi, .int .i64 g.r], .int .i64 w] σ = some (.ret, [.agg [.int .i64 (stepP g w), .int .i64 g.lo, .int .i64 g.hi, .int .i64 g.r]], σ) := by
  refine call2 (X := X) (a := .agg [.int .i64 g.p, .int .i64 g.lo, .int .i64 g.hi, .int .i64 g.r]) (b := .int .i64 w) (v := .agg [.int .i64 (stepP g w), .int .i64 g.lo, .int .i64 g.hi, .int .i64 g.r]) hX.h74 (by simp [AVal.strip, stripL, AVal.free, freeL]) rfl (by decide) (fun tm hl h0 h1 => ?_) rfl σ
  simp only [AVal.strip, stripL] at h0 h1
  replace hl : tm.length = 22 := hl
  unfold Gives
  have w4 := k.st
  unfold stepP at w4 ⊢
  simp [xf74, hl, h0, h1, u123 hX, u76 hX, k.s1, k.nr, w4, Store.empty, Store.new, Store.put, Store.get, look, putL, setR, Store.only, Store.merge, touch, wrote, upTo, isIn, okRec, hits, capsOf, xcaps, stripL, AVal.strip, freeL, AVal.free, fillR, chunks, mkV, List.filter]
theorem u22 {g : Gt} {w : Int} (k : TOk g w) (σ : Store) : Run X (.call 22) [.agg [.int .i64 g.p, .int .i64 g.lo, .int .i64 g.hi, .int .i64 g.r], .int .i64 w] σ = some (.ret, [.agg [.int .i64 (stepV g w), .int .i64 g.lo, .int .i64 g.hi, .int .i64 g.r]], σ) := by
  refine call2 (X := X) (a := .agg [.int .i64 g.p, .int .i64 g.lo, .int .i64 g.hi, .int .i64 g.r]) (b := .int .i64 w) (v := .agg [.int .i64 (stepV g w), .int .i64 g.lo, .int .i64 g.hi, .int .i64 g.r]) hX.h22 (by simp [AVal.strip, stripL, AVal.free, freeL]) rfl (by decide) (fun tm hl h0 h1 => ?_) rfl σ
  simp only [AVal.strip, stripL] at h0 h1
  replace hl : tm.length = 28 := hl
  unfold Gives
  unfold stepV goalV
  simp [xf22, hl, h0, h1, k.v1, k.v2, xext, xmm_max, xmm_min, Store.empty, Store.new, Store.put, Store.get, look, putL, setR, Store.only, Store.merge, touch, wrote, upTo, isIn, okRec, hits, capsOf, xcaps, stripL, AVal.strip, freeL, AVal.free, fillR, chunks, mkV, List.filter]
  rfl
end
end Go.Proofs.YtenlllgjfbifbaaGreat.Eng

/-
  GOVERNOR: wanted positions, steps, numbers of steps.
-/
namespace Go.Proofs.YtenlllgjfbifbaaGreat.Eng
set_option linter.unusedSimpArgs false
set_option linter.unusedVariables false
def wfE (r : Rl) (n : Int) : Int := if r.e = 0 then spE n else r.e
def gsE (g : Gt) (n : Int) : Int := if g.e = 0 then spE n else g.e
theorem wfE_eq (r : Rl) (n : Int) : firstNZ [r.e, spE n] = wfE r n := by
  unfold wfE; by_cases d : r.e = 0 <;> by_cases d2 : spE n = 0 <;> simp [firstNZ, d, d2]
theorem gsE_eq (g : Gt) (n : Int) : firstNZ [g.e, spE n] = gsE g n := by
  unfold gsE; by_cases d : g.e = 0 <;> by_cases d2 : spE n = 0 <;> simp [firstNZ, d, d2]
theorem wfE_ok {r : Rl} {n : Int} (h : wfE r n = 0) : r.Ok ∧ -100000 ≤ n ∧ n ≤ 100000 := by
  unfold wfE at h; split at h
  · exact ⟨Rl.ok (by assumption), spE_ok h⟩
  · contradiction
theorem gsE_ok {g : Gt} {n : Int} (h : gsE g n = 0) : g.Ok ∧ -100000 ≤ n ∧ n ≤ 100000 := by
  unfold gsE at h; split at h
  · exact ⟨Gt.ok (by assumption), spE_ok h⟩
  · contradiction
section
variable {X : FuncId → Option XFunc} (hX : GvACode X)
include hX
theorem u13 (r : Rl) (n : Int) (σ : Store) : Run X (.call 13) [.agg [.int .i64 r.b, .int .i64 r.n, .int .i64 r.d, .int .i64 r.s], .int .i64 n] σ = some (.ret, [.tup [.int .i64 (if wfE r n = 0 then wanP r n else 0), .int .i64 (wfE r n)]], σ) := by
  refine call2 (X := X) (a := .agg [.int .i64 r.b, .int .i64 r.n, .int .i64 r.d, .int .i64 r.s]) (b := .int .i64 n) (v := .tup [.int .i64 (if wfE r n = 0 then wanP r n else 0), .int .i64 (wfE r n)]) hX.h13 (by simp [AVal.strip, stripL, AVal.free, freeL]) rfl (by decide) (fun tm hl h0 h1 => ?_) rfl σ
  simp only [AVal.strip, stripL] at h0 h1
  replace hl : tm.length = 19 := hl
  unfold Gives
  have u2 := fun a b tok σ => u71 hX [a, b] (by simp) tok σ
  simp only [List.map_cons, List.map_nil] at u2
  have e := wfE_eq r n
  by_cases c : wfE r n = 0
  · have k := wfE_ok c
    have uw := u73 hX (w_ok k.1 k.2.1 k.2.2)
    rw [c] at e
    simp [xf13, hl, h0, h1, u19 hX, u72 hX, u2, e, c, uw, xresult, xrets, Store.empty, Store.new, Store.put, Store.get, look, putL, setR, Store.only, Store.merge, touch, wrote, upTo, isIn, okRec, hits, capsOf, xcaps, stripL, AVal.strip, freeL, AVal.free, fillR, chunks, mkV, List.filter]
  · simp [xf13, hl, h0, h1, u19 hX, u72 hX, u2, e, c, xresult, xrets, Store.empty, Store.new, Store.put, Store.get, look, putL, setR, Store.only, Store.merge, touch, wrote, upTo, isIn, okRec, hits, capsOf, xcaps, stripL, AVal.strip, freeL, AVal.free, fillR, chunks, mkV, List.filter]
theorem u14 (g : Gt) (n : Int) (σ : Store) : Run X (.call 14) [.agg [.int .i64 g.p, .int .i64 g.lo, .int .i64 g.hi, .int .i64 g.r], .int .i64 n] σ = some (.ret, [.tup [if gsE g n = 0 then .agg [.int .i64 (stepP g n), .int .i64 g.lo, .int .i64 g.hi, .int .i64 g.r] else .agg [.int .i64 0, .int .i64 0, .int .i64 0, .int .i64 0], .int .i64 (gsE g n)]], σ) := by
  have key := call2 (X := X) (a := .agg [.int .i64 g.p, .int .i64 g.lo, .int .i64 g.hi, .int .i64 g.r]) (b := .int .i64 n) (v := .tup [if gsE g n = 0 then .agg [.int .i64 (stepP g n), .int .i64 g.lo, .int .i64 g.hi, .int .i64 g.r] else .agg [.int .i64 0, .int .i64 0, .int .i64 0, .int .i64 0], .int .i64 (gsE g n)]) hX.h14 (by simp [AVal.strip, stripL, AVal.free, freeL]) rfl (by decide) (fun tm hl h0 h1 => ?_) (by simp [AVal.strip, stripL, AVal.free, freeL, apply_ite AVal.strip, apply_ite AVal.free]) σ
  · simpa [AVal.strip, stripL, apply_ite AVal.strip, apply_ite AVal.free] using key
  simp only [AVal.strip, stripL] at h0 h1
  replace hl : tm.length = 20 := hl
  unfold Gives
  have u2 := fun a b tok σ => u71 hX [a, b] (by simp) tok σ
  simp only [List.map_cons, List.map_nil] at u2
  have e := gsE_eq g n
  by_cases c : gsE g n = 0
  · have k := gsE_ok c
    have uw := u74 hX (t_ok k.1 n)
    rw [c] at e
    simp [xf14, hl, h0, h1, u18 hX, u72 hX, u2, e, c, uw, xresult, xrets, Store.empty, Store.new, Store.put, Store.get, look, putL, setR, Store.only, Store.merge, touch, wrote, upTo, isIn, okRec, hits, capsOf, xcaps, stripL, AVal.strip, freeL, AVal.free, fillR, chunks, mkV, List.filter]
  · simp [xf14, hl, h0, h1, u18 hX, u72 hX, u2, e, c, xresult, xrets, Store.empty, Store.new, Store.put, Store.get, look, putL, setR, Store.only, Store.merge, touch, wrote, upTo, isIn, okRec, hits, capsOf, xcaps, stripL, AVal.strip, freeL, AVal.free, fillR, chunks, mkV, List.filter]
theorem u15 (g : Gt) (n : Int) (σ : Store) : Run X (.call 15) [.agg [.int .i64 g.p, .int .i64 g.lo, .int .i64 g.hi, .int .i64 g.r], .int .i64 n] σ = some (.ret, [.tup [.int .i64 (if gsE g n = 0 then ticksP g n else 0), .int .i64 (gsE g n)]], σ) := by
  refine call2 (X := X) (a := .agg [.int .i64 g.p, .int .i64 g.lo, .int .i64 g.hi, .int .i64 g.r]) (b := .int .i64 n) (v := .tup [.int .i64 (if gsE g n = 0 then ticksP g n else 0), .int .i64 (gsE g n)]) hX.h15 (by simp [AVal.strip, stripL, AVal.free, freeL]) rfl (by decide) (fun tm hl h0 h1 => ?_) rfl σ
  simp only [AVal.strip, stripL] at h0 h1
  replace hl : tm.length = 32 := hl
  unfold Gives
  have u2 := fun a b tok σ => u71 hX [a, b] (by simp) tok σ
  simp only [List.map_cons, List.map_nil] at u2
  have e := gsE_eq g n
  by_cases c : gsE g n = 0
  · have k := gsE_ok c
    have t := t_ok k.1 n
    have us := u75 hX t.n1
    have w3 := t.a3
    unfold ticksP at w3 ⊢
    rw [c] at e
    simp [xf15, hl, h0, h1, u18 hX, u72 hX, u76 hX, u2, e, c, us, t.s1, t.a1, t.a2, w3, t.z, xresult, xrets, Store.empty, Store.new, Store.put, Store.get, look, putL, setR, Store.only, Store.merge, touch, wrote, upTo, isIn, okRec, hits, capsOf, xcaps, stripL, AVal.strip, freeL, AVal.free, fillR, chunks, mkV, List.filter]
  · simp [xf15, hl, h0, h1, u18 hX, u72 hX, u2, e, c, xresult, xrets, Store.empty, Store.new, Store.put, Store.get, look, putL, setR, Store.only, Store.merge, touch, wrote, upTo, isIn, okRec, hits, capsOf, xcaps, stripL, AVal.strip, freeL, AVal.free, fillR, chunks, mkV, List.filter]
end
end Go.Proofs.YtenlllgjfbifbaaGreat.Eng

/-
  GOVERNOR: lists of numbers: copies, checks, the same.
-/
namespace Go.Proofs.YtenlllgjfbifbaaGreat.Eng
set_option linter.unusedSimpArgs false
set_option linter.unusedVariables false
/-- A list of numbers as it comes. -/
def IL (L : List Int) (w : AVal) : Prop := (L = [] ∧ w = .nils) ∨ w = .list 1 (ints L) none
theorem IL.strip {L : List Int} {w : AVal} (h : IL L w) : w.strip = w := by
  rcases h with ⟨_, rfl⟩ | rfl
  · rfl
  · simp [AVal.strip, freeL_strip (ints_fr L)]
theorem IL.free {L : List Int} {w : AVal} (h : IL L w) : w.free = true := by
  rcases h with ⟨_, rfl⟩ | rfl
  · rfl
  · simp [AVal.free, ints_fr L]
theorem IL.one {L : List Int} {w : AVal} (h : IL L w) : w.one = true := by
  rcases h with ⟨_, rfl⟩ | rfl <;> rfl
theorem IL.cells {L : List Int} {w : AVal} (h : IL L w) : w.cells = [w] := by
  rcases h with ⟨_, rfl⟩ | rfl <;> rfl
theorem IL.xlen {L : List Int} {w : AVal} (h : IL L w) : Go.Proofs.YtenlllgjfbifbaaGreat.Eng.xlen w.down = some (.int .i64 L.length) := by
  rcases h with ⟨rfl, rfl⟩ | rfl
  · rfl
  · simp [Go.Proofs.YtenlllgjfbifbaaGreat.Eng.xlen, AVal.down, ints]
theorem IL.list {L : List Int} {w : AVal} (h : IL L w) (h0 : 0 < L.length) : w = .list 1 (ints L) none := by
  rcases h with ⟨rfl, rfl⟩ | rfl
  · simp at h0
  · rfl
theorem ints_get {L : List Int} {i : Nat} (h : i < L.length) : (ints L)[i]? = some (.int .i64 L[i]) := by simp [ints, h]
theorem il_IL (L : List Int) : IL L (il L) := by
  unfold il
  split
  · rename_i h; exact .inl ⟨h, rfl⟩
  · exact .inr rfl
def ixF : List Int → Nat → Int
  | [], _ => 0
  | e :: l, i => if e = 0 then ixF l (i + 1) else i
def feL (L : List Int) : Int := firstNZ (L.map spE)
def dvE (L : List Int) : Int := if 200 < L.length then 8 else feL L
theorem feL_ok {L : List Int} (h : feL L = 0) : ∀ u ∈ L, spE u = 0 := by
  unfold feL at h
  induction L with
  | nil => intro u hu; cases hu
  | cons x l ih =>
    simp only [List.map_cons, firstNZ] at h
    split at h
    · rename_i hx
      intro u hu
      rcases List.mem_cons.1 hu with rfl | hu
      · exact hx
      · exact ih h u hu
    · rename_i hx; exact absurd h hx
theorem dvE_ok {L : List Int} (h : dvE L = 0) : L.length ≤ 200 ∧ ∀ i, i < L.length → -100000 ≤ L.getD i 0 ∧ L.getD i 0 ≤ 100000 := by
  unfold dvE at h
  split at h
  · omega
  · refine ⟨by omega, fun i hi => ?_⟩
    have := feL_ok h (L.getD i 0) (by simp [hi])
    exact spE_ok this
section
variable {X : FuncId → Option XFunc} (hX : GvACode X)
include hX
theorem u25 {L : List Int} {w : AVal} (h : IL L w) (hn : L.length ≤ 1000000) (σ : Store) : Run X (.call 25) [w] σ = some (.ret, [.list 1 (ints L) none], σ) := by
  have b1 : L.length * 8 ≤ 1000000000000 := by omega
  have b2 : L.length ≤ 1000000000000 := by omega
  refine call1S hX.h25 (by rw [h.strip]; exact h.free) (by decide) (fun tm hl h0 => ?_) σ
  rw [h.strip] at h0
  replace hl : tm.length = 6 := hl
  unfold Seals
  rcases h with ⟨rfl, rfl⟩ | rfl
  · simp [xf25, hl, h0, xappendV, AVal.isSlice, ints, Store.empty, Store.new, Store.put, Store.get, look, putL, setR, Store.only, Store.merge, touch, wrote, upTo, isIn, okRec, hits, capsOf, xcaps, stripL, AVal.strip, freeL, AVal.free, fillR, chunks, mkV, List.filter]
    rfl
  · have ho : ones (ints L) = true := by simp [ones, ints, AVal.cells, AVal.one]
    have hfl : ∀ l : List Int, (ints l).flatMap AVal.cells = ints l := fun l => by
      induction l with
      | nil => rfl
      | cons a l ih => show [AVal.int .i64 a] ++ (ints l).flatMap AVal.cells = _; rw [ih]; rfl
    cases L with
    | nil =>
      simp [xf25, hl, h0, xappendV, xappendW, AVal.isSlice, ints, ones, Store.empty, Store.new, Store.put, Store.get, look, putL, setR, Store.only, Store.merge, touch, wrote, upTo, isIn, okRec, hits, capsOf, xcaps, stripL, AVal.strip, freeL, AVal.free, fillR, chunks, mkV, List.filter]
      rfl
    | cons x l =>
      have hfl := hfl (x :: l)
      have hil : ints (x :: l) = .int .i64 x :: ints l := rfl
      rw [hil] at ho hfl h0
      simp only [List.length_cons] at b1 b2
      simp [xf25, hl, h0, xappendV, xappendW, ho, hfl, b1, b2, ints_len, AVal.isSlice, Store.empty, Store.new, Store.put, Store.get, look, putL, setR, Store.only, Store.merge, touch, wrote, upTo, isIn, okRec, hits, capsOf, xcaps, stripL, AVal.strip, freeL, AVal.free, fillR, chunks, mkV, List.filter]
      have := sealR_vints (τ := ⟨[(0, NObj.gone), (1, NObj.cells (ints (x :: l)))], 2⟩) (e := 3) (n := 1) (L := x :: l) rfl
      simpa [hil] using this
/-! Checks of each. -/
omit hX in
theorem loop124 (L : List Int) {w : AVal} (hw : IL L w) (hn : L.length ≤ 1000000000) {F : FuncId} {f : Int → Int} (hf : ∀ a σ, Run X (.call F) [.int .i64 a] σ = some (.ret, [.int .i64 (f a)], σ)) : ∀ (k i : Nat), i + k = L.length → ∀ (tm : List AVal) (σ : Store), tm.length = 24 → XOpd.eval tm (.t 1) = .fn F [] [] → XOpd.eval tm (.t 9) = w → XOpd.eval tm (.t 10) = .int .i64 L.length → XOpd.eval tm (.t 11) = .int .i64 i →
    Ends (Run X (.code (.loop xf124l0)) tm σ) (if firstNZ ((L.drop i).map f) = 0 then .exit 0 else .ret) fun tm' _ => tm'.length = 24 ∧ (firstNZ ((L.drop i).map f) ≠ 0 → XOpd.eval tm' (.t 4) = .int .i64 (ixF ((L.drop i).map f) i) ∧ XOpd.eval tm' (.t 5) = .int .i64 (firstNZ ((L.drop i).map f)))
  | 0, i, hk, tm, σ, hl, h1, h9, h10, h11 => by
    have hi : i = L.length := by omega
    subst hi
    rw [Run_loop]
    simp [xf124l0, hl, h10, h11, firstNZ]
  | k + 1, i, hk, tm, σ, hl, h1, h9, h10, h11 => by
    have hi : i < L.length := by omega
    have hd : L.drop i = L[i] :: L.drop (i + 1) := List.drop_eq_getElem_cons hi
    have hiw : IntKind.i64.wrap ((i : Int) + 1) = ((i + 1 : Nat) : Int) := by rw [wrap_i64] <;> omega
    have hwl := hw.list (by omega)
    subst hwl
    have hg := ints_get hi
    have hfi := hf L[i]
    rw [hd]
    by_cases he : f L[i] = 0
    · have ih := loop124 L hw hn hf k (i + 1) (by omega)
      have key : Ends (Run X (.code xf124l0) tm σ) .normal fun tm' _ => tm'.length = 24 ∧ XOpd.eval tm' (.t 1) = .fn F [] [] ∧ XOpd.eval tm' (.t 9) = .list 1 (ints L) none ∧ XOpd.eval tm' (.t 10) = .int .i64 L.length ∧ XOpd.eval tm' (.t 11) = .int .i64 ((i + 1 : Nat) : Int) := by
        simp [xf124l0, hl, h1, h9, h10, h11, hi, hg, he, hfi, hiw, xload, AVal.cells]
      obtain ⟨o1, o2, o3, o4, o5, o6⟩ := out_of key
      rw [Run_loop, o1, thenC_normal]
      simp only [ixF, firstNZ, List.map_cons, he, if_true] at ih ⊢
      exact ih _ _ o2 o3 o4 o5 o6
    · rw [Run_loop]
      simp only [ixF, firstNZ, List.map_cons, he, if_false]
      simp [xf124l0, hl, h1, h9, h10, h11, hi, hg, he, hfi, xload, AVal.cells]
theorem u124 {L : List Int} {w : AVal} (h : IL L w) (hn : L.length ≤ 1000000000) {F : FuncId} {f : Int → Int} (hf : ∀ a σ, Run X (.call F) [.int .i64 a] σ = some (.ret, [.int .i64 (f a)], σ)) (σ : Store) : Run X (.call 124) [w, .fn F [] []] σ = some (.ret, [.tup [.int .i64 (if firstNZ (L.map f) = 0 then 0 else ixF (L.map f) 0), .int .i64 (firstNZ (L.map f))]], σ) := by
  have hL := fun tm σ h1 h2 h3 h4 h5 => out_of (loop124 (X := X) L h hn hf L.length 0 (by omega) tm σ h1 h2 h3 h4 h5)
  simp only [List.drop_zero] at hL
  have hx := h.xlen
  by_cases he : firstNZ (L.map f) = 0
  · simp only [he, if_true] at hL ⊢
    refine call2 (v := .tup [.int .i64 0, .int .i64 0]) hX.h124 (by rw [h.strip]; exact h.free) rfl (by decide) (fun tm hl h0 h1 => ?_) rfl σ
    rw [h.strip] at h0
    simp only [AVal.strip, stripL] at h1
    replace hl : tm.length = 24 := hl
    unfold Gives
    simp (maxDischargeDepth := 9) [xf124, hl, h0, h1, hx, hL, he, xresult, xrets]
  · simp only [he, if_false] at hL ⊢
    refine call2 (v := .tup [.int .i64 (ixF (L.map f) 0), .int .i64 (firstNZ (L.map f))]) hX.h124 (by rw [h.strip]; exact h.free) rfl (by decide) (fun tm hl h0 h1 => ?_) rfl σ
    rw [h.strip] at h0
    simp only [AVal.strip, stripL] at h1
    replace hl : tm.length = 24 := hl
    unfold Gives
    simp (maxDischargeDepth := 9) [xf124, hl, h0, h1, hx, hL, he, xresult, xrets]
theorem u82 {L : List Int} {w : AVal} (h : IL L w) (hn : L.length ≤ 1000000000) {F : FuncId} {f : Int → Int} (hf : ∀ a σ, Run X (.call F) [.int .i64 a] σ = some (.ret, [.int .i64 (f a)], σ)) (σ : Store) : Run X (.call 82) [w, .fn F [] []] σ = some (.ret, [.int .i64 (firstNZ (L.map f))], σ) := by
  have uf := u124 hX h hn hf
  refine call2 (v := .int .i64 (firstNZ (L.map f))) hX.h82 (by rw [h.strip]; exact h.free) rfl (by decide) (fun tm hl h0 h1 => ?_) rfl σ
  rw [h.strip] at h0
  simp only [AVal.strip, stripL] at h1
  replace hl : tm.length = 14 := hl
  unfold Gives
  simp [xf82, hl, h0, h1, uf, xresult, xrets, Store.empty, Store.new, Store.put, Store.get, look, putL, setR, Store.only, Store.merge, touch, wrote, upTo, isIn, okRec, hits, capsOf, xcaps, stripL, AVal.strip, freeL, AVal.free, fillR, chunks, mkV, List.filter]
theorem u81 {L : List Int} {w : AVal} (h : IL L w) (m : Int) (σ : Store) : Run X (.call 81) [w, .int .i64 m] σ = some (.ret, [.int .i64 (if decide ((L.length : Int) ≤ m) then 0 else 8)], σ) := by
  have hx := h.xlen
  refine call2 (v := .int .i64 (if decide ((L.length : Int) ≤ m) then 0 else 8)) hX.h81 (by rw [h.strip]; exact h.free) rfl (by decide) (fun tm hl h0 h1 => ?_) rfl σ
  rw [h.strip] at h0
  simp only [AVal.strip, stripL] at h1
  replace hl : tm.length = 10 := hl
  unfold Gives
  simp [xf81, hl, h0, h1, hx, u79 hX, Store.empty, Store.new, Store.put, Store.get, look, putL, setR, Store.only, Store.merge, touch, wrote, upTo, isIn, okRec, hits, capsOf, xcaps, stripL, AVal.strip, freeL, AVal.free, fillR, chunks, mkV, List.filter]
end
end Go.Proofs.YtenlllgjfbifbaaGreat.Eng

/-
  GOVERNOR: runs of a gate.
-/
namespace Go.Proofs.YtenlllgjfbifbaaGreat.Eng
set_option linter.unusedSimpArgs false
set_option linter.unusedVariables false
def pS (g : Gt) (r : Rl) (L : List Int) : Nat → Int
  | 0 => g.p
  | i + 1 => stepP (g.to (pS g r L i)) (wanP r (L.getD i 0))
def posL (g : Gt) (r : Rl) (L : List Int) (n : Nat) : List Int := (List.range n).map fun i => pS g r L (i + 1)
theorem posL_len (g : Gt) (r : Rl) (L : List Int) (n : Nat) : (posL g r L n).length = n := by simp [posL]
theorem posL_succ (g : Gt) (r : Rl) (L : List Int) (n : Nat) : posL g r L (n + 1) = posL g r L n ++ [pS g r L (n + 1)] := by simp [posL, List.range_succ]
theorem ints_app (L : List Int) (x : Int) : ints (L ++ [x]) = ints L ++ [.int .i64 x] := by simp [ints]
def rnE (g : Gt) (r : Rl) (L : List Int) : Int := if g.e = 0 then (if r.e = 0 then dvE L else r.e) else g.e
theorem rnE_eq (g : Gt) (r : Rl) (L : List Int) : firstNZ [g.e, r.e, if decide ((L.length : Int) ≤ 200) then 0 else 8, feL L] = rnE g r L := by
  unfold rnE dvE
  by_cases d1 : g.e = 0 <;> by_cases d2 : r.e = 0 <;> by_cases d3 : 200 < L.length
  all_goals
    have d3' : (L.length : Int) ≤ 200 ↔ ¬ 200 < L.length := by omega
    by_cases d4 : feL L = 0 <;> simp [firstNZ, d1, d2, d3, d3', d4]
/-- What a run needs. -/
structure RIn (g : Gt) (r : Rl) (L : List Int) : Prop where
  g : g.Ok
  r : r.Ok
  n : L.length ≤ 200
  d : ∀ i, i < L.length → -100000 ≤ L.getD i 0 ∧ L.getD i 0 ≤ 100000
theorem rnE_in {g : Gt} {r : Rl} {L : List Int} (h : rnE g r L = 0) : RIn g r L := by
  unfold rnE at h
  split at h <;> try contradiction
  rename_i h1
  split at h <;> try contradiction
  rename_i h2
  obtain ⟨h3, h4⟩ := dvE_ok h
  exact ⟨Gt.ok h1, Rl.ok h2, h3, h4⟩
theorem RIn.at {g : Gt} {r : Rl} {L : List Int} (h : RIn g r L) : ∀ i, (g.to (pS g r L i)).Ok
  | 0 => h.g
  | i + 1 => by
    have ih := h.at i
    have s := step_in ih (wanP r (L.getD i 0))
    exact Gt.to_ok h.g s.1 s.2.1
section
variable {X : FuncId → Option XFunc} (hX : GvACode X)
include hX
theorem loop26 (L : List Int) {w : AVal} (hw : IL L w) (hn : L.length ≤ 1000000000) : ∀ (k i : Nat), i + k = L.length → ∀ (tm : List AVal) (σ : Store), tm.length = 22 → XOpd.eval tm (.t 0) = w → XOpd.eval tm (.t 3) = .int .i64 i →
    Ends (Run X (.code (.loop xf26l0)) tm σ) (if feL (L.drop i) = 0 then .exit 0 else .ret) fun tm' _ => tm'.length = 22 ∧ (feL (L.drop i) ≠ 0 → XOpd.eval tm' (.t 2) = .int .i64 (feL (L.drop i)))
  | 0, i, hk, tm, σ, hl, h0, h3 => by
    have hi : i = L.length := by omega
    subst hi
    have hx := hw.xlen
    rw [Run_loop]
    simp [xf26l0, hl, h0, h3, hx, firstNZ, feL]
  | k + 1, i, hk, tm, σ, hl, h0, h3 => by
    have hi : i < L.length := by omega
    have hd : L.drop i = L[i] :: L.drop (i + 1) := List.drop_eq_getElem_cons hi
    have hiw : IntKind.i64.wrap ((i : Int) + 1) = ((i + 1 : Nat) : Int) := by rw [wrap_i64] <;> omega
    have hx := hw.xlen
    have hwl := hw.list (by omega)
    subst hwl
    rw [down_list] at hx
    have hg := ints_get hi
    have u20 := u20 hX L[i]
    rw [hd]
    by_cases he : spE L[i] = 0
    · have ih := loop26 L hw hn k (i + 1) (by omega)
      have key : Ends (Run X (.code xf26l0) tm σ) .normal fun tm' _ => tm'.length = 22 ∧ XOpd.eval tm' (.t 0) = .list 1 (ints L) none ∧ XOpd.eval tm' (.t 3) = .int .i64 ((i + 1 : Nat) : Int) := by
        simp [xf26l0, hl, h0, h3, hx, hi, hg, he, u20, hiw, xload, AVal.cells]
      obtain ⟨o1, o2, o3, o4⟩ := out_of key
      rw [Run_loop, o1, thenC_normal]
      simp only [feL, firstNZ, List.map_cons, he, if_true] at ih ⊢
      exact ih _ _ o2 o3 o4
    · rw [Run_loop]
      simp only [feL, firstNZ, List.map_cons, he, if_false]
      simp [xf26l0, hl, h0, h3, hx, hi, hg, he, u20, xload, AVal.cells]
theorem u26 {L : List Int} {w : AVal} (h : IL L w) (hn : L.length ≤ 1000000000) (σ : Store) : Run X (.call 26) [w] σ = some (.ret, [.int .i64 (dvE L)], σ) := by
  have hL := fun tm σ h1 h2 h3 => out_of (loop26 hX L h hn L.length 0 (by omega) tm σ h1 h2 h3)
  simp only [List.drop_zero] at hL
  have hx := h.xlen
  refine call1 (v := .int .i64 (dvE L)) hX.h26 (by rw [h.strip]; exact h.free) (by decide) (fun tm hl h0 => ?_) rfl σ
  rw [h.strip] at h0
  replace hl : tm.length = 22 := hl
  unfold Gives dvE
  by_cases c : 200 < L.length
  · have c' : (200 : Int) < L.length := by omega
    simp [xf26, hl, h0, hx, c, c', Store.empty, Store.new, Store.put, Store.get, look, putL, setR, Store.only, Store.merge, touch, wrote, upTo, isIn, okRec, hits, capsOf, xcaps, stripL, AVal.strip, freeL, AVal.free, fillR, chunks, mkV, List.filter]
  · have c' : ¬ (200 : Int) < L.length := by omega
    have c0 : ((0 : Nat) : Int) = 0 := rfl
    simp only [c0] at hL
    by_cases he : feL L = 0
    · simp only [he, if_true] at hL
      simp (maxDischargeDepth := 9) [xf26, hl, h0, hx, c, c', hL, he, Store.empty, Store.new, Store.put, Store.get, look, putL, setR, Store.only, Store.merge, touch, wrote, upTo, isIn, okRec, hits, capsOf, xcaps, stripL, AVal.strip, freeL, AVal.free, fillR, chunks, mkV, List.filter]
    · simp only [he, if_false] at hL
      simp (maxDischargeDepth := 9) [xf26, hl, h0, hx, c, c', hL, he, Store.empty, Store.new, Store.put, Store.get, look, putL, setR, Store.only, Store.merge, touch, wrote, upTo, isIn, okRec, hits, capsOf, xcaps, stripL, AVal.strip, freeL, AVal.free, fillR, chunks, mkV, List.filter]
/-! A list, twice. -/
omit hX in
theorem loop27 (L : List Int) {w v : AVal} (hw : IL L w) (hv : IL L v) (hn : L.length ≤ 1000000000) : ∀ (k i : Nat), i + k = L.length → ∀ (tm : List AVal) (σ : Store), tm.length = 26 → XOpd.eval tm (.t 0) = w → XOpd.eval tm (.t 1) = v → XOpd.eval tm (.t 5) = .int .i64 i →
    Ends (Run X (.code (.loop xf27l0)) tm σ) (.exit 0) fun tm' _ => tm'.length = 26
  | 0, i, hk, tm, σ, hl, h0, h1, h5 => by
    have hi : i = L.length := by omega
    subst hi
    have hx := hw.xlen
    rw [Run_loop]
    simp [xf27l0, hl, h0, h5, hx]
  | k + 1, i, hk, tm, σ, hl, h0, h1, h5 => by
    have hi : i < L.length := by omega
    have hiw : IntKind.i64.wrap ((i : Int) + 1) = ((i + 1 : Nat) : Int) := by rw [wrap_i64] <;> omega
    have hx := hw.xlen
    have hwl := hw.list (by omega)
    subst hwl
    have hvl := hv.list (by omega)
    subst hvl
    rw [down_list] at hx
    have hg := ints_get hi
    have ih := loop27 L hw hv hn k (i + 1) (by omega)
    have key : Ends (Run X (.code xf27l0) tm σ) .normal fun tm' _ => tm'.length = 26 ∧ XOpd.eval tm' (.t 0) = .list 1 (ints L) none ∧ XOpd.eval tm' (.t 1) = .list 1 (ints L) none ∧ XOpd.eval tm' (.t 5) = .int .i64 ((i + 1 : Nat) : Int) := by
      simp [xf27l0, hl, h0, h1, h5, hx, hi, hg, hiw, xload, AVal.cells, put_next, new_next, Store.get_new, Store.get_put, put_get, setR, only_get, merge_get', only_next, merge_next, upTo_self, upTo_one, merge_only, touch, wrote, isIn, okRec, hits, capsOf, xcaps, stripL, AVal.strip, freeL, AVal.free, fillR, chunks, mkV]
    obtain ⟨o1, o2, o3, o4, o5⟩ := out_of key
    rw [Run_loop, o1, thenC_normal]
    exact ih _ _ o2 o3 o4 o5
theorem u27 {L : List Int} {w v : AVal} (hw : IL L w) (hv : IL L v) (hn : L.length ≤ 1000000000) (σ : Store) : Run X (.call 27) [w, v] σ = some (.ret, [.bool true], σ) := by
  have hL := fun tm σ h1 h2 h3 h4 => out_of (loop27 (X := X) L hw hv hn L.length 0 (by omega) tm σ h1 h2 h3 h4)
  have hx := hw.xlen
  have hy := hv.xlen
  have c0 : ((0 : Nat) : Int) = 0 := rfl
  simp only [c0] at hL
  refine call2 (v := .bool true) hX.h27 (by rw [hw.strip]; exact hw.free) (by rw [hv.strip]; exact hv.free) (by decide) (fun tm hl h0 h1 => ?_) rfl σ
  rw [hw.strip] at h0
  rw [hv.strip] at h1
  replace hl : tm.length = 26 := hl
  unfold Gives
  simp (maxDischargeDepth := 9) [xf27, hl, h0, h1, hx, hy, hL, Store.empty, Store.new, Store.put, Store.get, look, putL, setR, Store.only, Store.merge, touch, wrote, upTo, isIn, okRec, hits, capsOf, xcaps, stripL, AVal.strip, freeL, AVal.free, fillR, chunks, mkV, List.filter]
/-! The program's run. -/
omit hX in
def I24 (g : Gt) (r : Rl) (L : List Int) (w : AVal) (i : Nat) (tm : List AVal) (σ : Store) : Prop :=
  tm.length = 43 ∧ XOpd.eval tm (.t 3) = .ptr 0 0 ∧ XOpd.eval tm (.t 4) = .ptr 1 0 ∧ XOpd.eval tm (.t 25) = w ∧ XOpd.eval tm (.t 26) = .int .i64 L.length ∧ XOpd.eval tm (.t 27) = .int .i64 i ∧
  σ.get 0 = some (.cells [.int .i64 (pS g r L i), .int .i64 g.lo, .int .i64 g.hi, .int .i64 g.r]) ∧ σ.get 1 = some (.cells [.int .i64 r.b, .int .i64 r.n, .int .i64 r.d, .int .i64 r.s]) ∧ 2 ≤ σ.next ∧ OutV 3 σ 2 (posL g r L i) (XOpd.eval tm (.t 9))
set_option maxHeartbeats 4000000 in
theorem round24 {g : Gt} {r : Rl} {L : List Int} {w : AVal} (hw : IL L w) (h : RIn g r L) (i : Nat) (hi : i < L.length) (tm : List AVal) (σ : Store) (hI : I24 g r L w i tm σ) : Ends (Run X (.code xf24l0) tm σ) .normal (I24 g r L w (i + 1)) := by
  obtain ⟨hl, ha, hb, h25, h26, h27, g0, g1, nx, ho⟩ := hI
  obtain ⟨N, hN⟩ : ∃ N, σ.next = N + 2 := ⟨σ.next - 2, by omega⟩
  have hn := h.n
  have hiw : IntKind.i64.wrap ((i : Int) + 1) = ((i + 1 : Nat) : Int) := by rw [wrap_i64] <;> omega
  have hwl := hw.list (by omega)
  subst hwl
  have hg := ints_get hi
  have hgd : L.getD i 0 = L[i] := by simp [hi]
  have hd := h.d i hi
  rw [hgd] at hd
  have hok := h.at i
  have u73 := u73 hX (w_ok h.r hd.1 hd.2)
  have u74 := u74 hX (t_ok hok (wanP r L[i]))
  have eS : pS g r L (i + 1) = stepP (g.to (pS g r L i)) (wanP r L[i]) := by show stepP _ (wanP r (L.getD i 0)) = _; rw [hgd]
  have e1 : (g.to (pS g r L i)).p = pS g r L i := rfl
  have e2 : (g.to (pS g r L i)).lo = g.lo := rfl
  have e3 : (g.to (pS g r L i)).hi = g.hi := rfl
  have e4 : (g.to (pS g r L i)).r = g.r := rfl
  rw [← eS, e1, e2, e3, e4] at u74
  unfold I24
  rw [posL_succ]
  have hlen := posL_len g r L i
  generalize posL g r L i = P at *
  generalize pS g r L (i + 1) = q at *
  generalize pS g r L i = p at *
  generalize hvo : XOpd.eval tm (.t 9) = vo at *
  rcases ho with ⟨rfl, rfl⟩ | ⟨j, j1, j2, rfl, j3, j4⟩
  · have e : Ends (Run X (.code xf24l0) tm σ) .normal fun tm' σ' => tm'.length = 43 ∧ XOpd.eval tm' (.t 3) = .ptr 0 0 ∧ XOpd.eval tm' (.t 4) = .ptr 1 0 ∧ XOpd.eval tm' (.t 25) = .list 1 (ints L) none ∧ XOpd.eval tm' (.t 26) = .int .i64 L.length ∧ XOpd.eval tm' (.t 27) = .int .i64 ((i + 1 : Nat) : Int) ∧
        σ'.get 0 = some (.cells [.int .i64 q, .int .i64 g.lo, .int .i64 g.hi, .int .i64 g.r]) ∧ σ'.get 1 = some (.cells [.int .i64 r.b, .int .i64 r.n, .int .i64 r.d, .int .i64 r.s]) ∧ σ'.next = N + 4 ∧ XOpd.eval tm' (.t 9) = .vlist 3 1 (N + 3) 1 ∧ σ'.get (N + 3) = some (.cells [.int .i64 q]) := by
      simp [xf24l0, hl, ha, hb, h25, h26, h27, hvo, g0, g1, hN, hi, hg, u73, u74, hiw, xload, xappendV, xappendW, ones, AVal.one, AVal.cells, put_next, new_next, Store.get_new, Store.get_put, put_get, setR, only_get, merge_get', only_next, merge_next, upTo_self, upTo_one, merge_only, touch, wrote, isIn, okRec, hits, capsOf, xcaps, stripL, AVal.strip, freeL, AVal.free, fillR, chunks, mkV]
    obtain ⟨o1, p1, p2, p3, p4, p5, p6, p7, p8, p9, p10, p11⟩ := out_of e
    exact ⟨_, _, o1, p1, p2, p3, p4, p5, p6, p7, p8, by omega, .inr ⟨N + 3, by omega, by omega, p10, p11, by simp⟩⟩
  · have b1 : (i + 1) * 8 ≤ 1000000000000 := by omega
    have b2 : i + 1 ≤ 1000000000000 := by omega
    have b3 : i ≤ 999999999999 := by omega
    have hpl := ints_len P
    rw [hlen] at hvo
    have n1 : ¬ j = N + 2 := by omega
    have n2 : ¬ N + 2 = j := by omega
    have n3 : ¬ j = N + 3 := by omega
    have n4 : ¬ N + 3 = j := by omega
    have n5 : ¬ j = 0 := by omega
    have n6 : ¬ 0 = j := by omega
    have n7 : ¬ j = 1 := by omega
    have n8 : ¬ 1 = j := by omega
    rw [hlen] at hpl
    have e : Ends (Run X (.code xf24l0) tm σ) .normal fun tm' σ' => tm'.length = 43 ∧ XOpd.eval tm' (.t 3) = .ptr 0 0 ∧ XOpd.eval tm' (.t 4) = .ptr 1 0 ∧ XOpd.eval tm' (.t 25) = .list 1 (ints L) none ∧ XOpd.eval tm' (.t 26) = .int .i64 L.length ∧ XOpd.eval tm' (.t 27) = .int .i64 ((i + 1 : Nat) : Int) ∧
        σ'.get 0 = some (.cells [.int .i64 q, .int .i64 g.lo, .int .i64 g.hi, .int .i64 g.r]) ∧ σ'.get 1 = some (.cells [.int .i64 r.b, .int .i64 r.n, .int .i64 r.d, .int .i64 r.s]) ∧ σ'.next = N + 4 ∧ XOpd.eval tm' (.t 9) = .vlist 3 1 (N + 3) (i + 1) ∧ σ'.get (N + 3) = some (.cells (ints P ++ [.int .i64 q])) := by
      simp [xf24l0, hl, ha, hb, h25, h26, h27, hvo, g0, g1, j3, hlen, hpl, hN, hi, hg, u73, u74, hiw, n1, n2, n3, n4, n5, n6, n7, n8, b1, b2, b3, xload, xappendV, xappendW, ones, AVal.one, AVal.cells, put_next, new_next, Store.get_new, Store.get_put, put_get, setR, only_get, merge_get', only_next, merge_next, upTo_self, upTo_one, merge_only, touch, wrote, isIn, okRec, hits, capsOf, xcaps, stripL, AVal.strip, freeL, AVal.free, fillR, chunks, mkV]
    obtain ⟨o1, p1, p2, p3, p4, p5, p6, p7, p8, p9, p10, p11⟩ := out_of e
    refine ⟨_, _, o1, p1, p2, p3, p4, p5, p6, p7, p8, by omega, .inr ⟨N + 3, by omega, by omega, ?_, ?_, by simp⟩⟩
    · rw [p10, List.length_append, hlen]; rfl
    · rw [p11, ints_app]
end
end Go.Proofs.YtenlllgjfbifbaaGreat.Eng

/-
  GOVERNOR: runs of a gate, whole.
-/
namespace Go.Proofs.YtenlllgjfbifbaaGreat.Eng
set_option linter.unusedSimpArgs false
set_option linter.unusedVariables false
section
variable {X : FuncId → Option XFunc} (hX : GvACode X)
include hX
theorem all24 {g : Gt} {r : Rl} {L : List Int} {w : AVal} (hw : IL L w) (h : RIn g r L) (tm : List AVal) (σ : Store) (hI : I24 g r L w 0 tm σ) : Ends (Run X (.code (.loop xf24l0)) tm σ) (.exit 0) fun tm' σ' => tm'.length = 43 ∧ OutV 3 σ' 2 (posL g r L L.length) (XOpd.eval tm' (.t 9)) := by
  refine loop_all L.length (I24 g r L w) (by simp) (fun i tm σ hi hI => round24 hX hw h i hi tm σ hI) (fun tm σ hI => ?_) tm σ hI
  obtain ⟨hl, ha, hb, h25, h26, h27, g0, g1, nx, ho⟩ := hI
  simp [xf24l0, hl, h26, h27]
  exact ho
set_option maxHeartbeats 4000000 in
theorem u24 (g : Gt) (r : Rl) {L : List Int} {w : AVal} (hw : IL L w) (hn : L.length ≤ 1000000) (σ : Store) : Run X (.call 24) [.agg [.int .i64 g.p, .int .i64 g.lo, .int .i64 g.hi, .int .i64 g.r], .agg [.int .i64 r.b, .int .i64 r.n, .int .i64 r.d, .int .i64 r.s], w] σ = some (.ret, [.tup [if rnE g r L = 0 then il (posL g r L L.length) else .nils, .int .i64 (rnE g r L)]], σ) := by
  have u4 := fun a b c d tok σ => u71 hX [a, b, c, d] (by simp) tok σ
  simp only [List.map_cons, List.map_nil] at u4
  have ug := u18 hX g; have ur := u19 hX r; have um := u81 hX hw 200
  have ue := u82 hX hw (by omega) (u72 hX)
  have ef := rnE_eq g r L
  have fl : feL L = firstNZ (L.map spE) := rfl
  rw [← fl] at ue
  generalize (if decide ((L.length : Int) ≤ 200) then (0 : Int) else 8) = m at um ef
  refine call3S (a := .agg [.int .i64 g.p, .int .i64 g.lo, .int .i64 g.hi, .int .i64 g.r]) (b := .agg [.int .i64 r.b, .int .i64 r.n, .int .i64 r.d, .int .i64 r.s]) hX.h24 rfl rfl (by rw [hw.strip]; exact hw.free) (by decide) (fun tm hl h0 h1 h2 => ?_) σ
  rw [hw.strip] at h2
  simp only [AVal.strip, stripL] at h0 h1
  replace hl : tm.length = 43 := hl
  have hsw := hw.strip; have hfw := hw.free; have hx := hw.xlen
  unfold Seals
  by_cases c : rnE g r L = 0
  · have ri := rnE_in c
    rw [if_pos c, c]
    rw [c] at ef
    have eP : Ends (Run X (.code (XCode.cutP 3 xf24.body)) tm Store.empty) .normal (I24 g r L w 0) := by
      simp [I24, OutV, posL, pS, xf24, XCode.cutP, hl, h0, h1, h2, ug, ur, um, ue, u4, ef, hsw, hfw, hx, Store.empty, Store.new, Store.put, Store.get, look, putL, setR, Store.only, Store.merge, touch, wrote, upTo, isIn, okRec, hits, capsOf, xcaps, stripL, AVal.strip, freeL, AVal.free, fillR, chunks, mkV, List.filter]
    have eB : XCode.cutB 3 xf24.body = .block 0 (.loop xf24l0) := rfl
    obtain ⟨o1, o2⟩ := out_of eP
    obtain ⟨q1, q2, q3⟩ := out_of (all24 hX hw ri _ _ o2)
    rw [Run_cut 3, o1, thenC_normal, eB, Run_block, q1, blockC_exit, thenC_normal]
    generalize outT X (.loop xf24l0) _ _ = tm3 at *
    generalize outS X (.loop xf24l0) _ _ = σ3 at *
    have hs := q3.seal2 0
    simp [xf24, XCode.cutR, q2, xresult, xrets, xret_t, hs]
  · rw [if_neg c]
    simp [xf24, hl, h0, h1, h2, ug, ur, um, ue, u4, ef, c, hsw, hfw, hx, xresult, xrets, sealR, Store.empty, Store.new, Store.put, Store.get, look, putL, setR, Store.only, Store.merge, touch, wrote, upTo, isIn, okRec, hits, capsOf, xcaps, stripL, AVal.strip, freeL, AVal.free, fillR, chunks, mkV, List.filter]
omit hX in
def I28 (g : Gt) (r : Rl) (L : List Int) (w : AVal) (i : Nat) (tm : List AVal) (σ : Store) : Prop :=
  tm.length = 29 ∧ XOpd.eval tm (.t 2) = w ∧ XOpd.eval tm (.t 3) = .ptr 0 0 ∧ XOpd.eval tm (.t 4) = .ptr 1 0 ∧ XOpd.eval tm (.t 8) = .int .i64 i ∧
  σ.get 0 = some (.cells [.int .i64 (pS g r L i), .int .i64 g.lo, .int .i64 g.hi, .int .i64 g.r]) ∧ σ.get 1 = some (.cells [.int .i64 r.b, .int .i64 r.n, .int .i64 r.d, .int .i64 r.s]) ∧ 2 ≤ σ.next ∧ OutV 3 σ 2 (posL g r L i) (XOpd.eval tm (.t 7))
set_option maxHeartbeats 4000000 in
theorem round28 {g : Gt} {r : Rl} {L : List Int} {w : AVal} (hw : IL L w) (h : RIn g r L) (i : Nat) (hi : i < L.length) (tm : List AVal) (σ : Store) (hI : I28 g r L w i tm σ) : Ends (Run X (.code xf28l0) tm σ) .normal (I28 g r L w (i + 1)) := by
  obtain ⟨hl, h2, ha, hb, h8, g0, g1, nx, ho⟩ := hI
  obtain ⟨N, hN⟩ : ∃ N, σ.next = N + 2 := ⟨σ.next - 2, by omega⟩
  have hn := h.n
  have hiw : IntKind.i64.wrap ((i : Int) + 1) = ((i + 1 : Nat) : Int) := by rw [wrap_i64] <;> omega
  have hx := hw.xlen
  have hwl := hw.list (by omega)
  subst hwl
  rw [down_list] at hx
  have hg := ints_get hi
  have hgd : L.getD i 0 = L[i] := by simp [hi]
  have hd := h.d i hi
  rw [hgd] at hd
  have hok := h.at i
  have u21 := u21 hX (v_ok h.r hd.1 hd.2)
  rw [← wan_eq h.r] at u21
  have u22 := u22 hX (t_ok hok (wanP r L[i]))
  rw [step_eq hok] at u22
  have eS : pS g r L (i + 1) = stepP (g.to (pS g r L i)) (wanP r L[i]) := by show stepP _ (wanP r (L.getD i 0)) = _; rw [hgd]
  have e1 : (g.to (pS g r L i)).p = pS g r L i := rfl
  have e2 : (g.to (pS g r L i)).lo = g.lo := rfl
  have e3 : (g.to (pS g r L i)).hi = g.hi := rfl
  have e4 : (g.to (pS g r L i)).r = g.r := rfl
  rw [← eS, e1, e2, e3, e4] at u22
  unfold I28
  rw [posL_succ]
  have hlen := posL_len g r L i
  have fI := ints_fr L
  generalize posL g r L i = P at *
  generalize pS g r L (i + 1) = q at *
  generalize pS g r L i = p at *
  generalize hvo : XOpd.eval tm (.t 7) = vo at *
  rcases ho with ⟨rfl, rfl⟩ | ⟨j, j1, j2, rfl, j3, j4⟩
  · have e : Ends (Run X (.code xf28l0) tm σ) .normal fun tm' σ' => tm'.length = 29 ∧ XOpd.eval tm' (.t 2) = .list 1 (ints L) none ∧ XOpd.eval tm' (.t 3) = .ptr 0 0 ∧ XOpd.eval tm' (.t 4) = .ptr 1 0 ∧ XOpd.eval tm' (.t 8) = .int .i64 ((i + 1 : Nat) : Int) ∧
        σ'.get 0 = some (.cells [.int .i64 q, .int .i64 g.lo, .int .i64 g.hi, .int .i64 g.r]) ∧ σ'.get 1 = some (.cells [.int .i64 r.b, .int .i64 r.n, .int .i64 r.d, .int .i64 r.s]) ∧ σ'.next = N + 4 ∧ XOpd.eval tm' (.t 7) = .vlist 3 1 (N + 3) 1 ∧ σ'.get (N + 3) = some (.cells [.int .i64 q]) := by
      simp [xf28l0, hl, h2, ha, hb, h8, hvo, hx, g0, g1, hN, hi, hg, fI, u21, u22, hiw, xload, xappendV, xappendW, ones, AVal.one, AVal.cells, put_next, new_next, Store.get_new, Store.get_put, put_get, setR, only_get, merge_get', only_next, merge_next, upTo_self, upTo_one, merge_only, touch, wrote, isIn, okRec, hits, capsOf, xcaps, stripL, AVal.strip, freeL, AVal.free, fillR, chunks, mkV]
    obtain ⟨o1, p1, p2, p3, p4, p5, p7, p8, p9, p10, p11⟩ := out_of e
    exact ⟨_, _, o1, p1, p2, p3, p4, p5, p7, p8, by omega, .inr ⟨N + 3, by omega, by omega, p10, p11, by simp⟩⟩
  · have b1 : (i + 1) * 8 ≤ 1000000000000 := by omega
    have b2 : i + 1 ≤ 1000000000000 := by omega
    have b3 : i ≤ 999999999999 := by omega
    have hpl := ints_len P
    rw [hlen] at hvo
    have n1 : ¬ j = N + 2 := by omega
    have n2 : ¬ N + 2 = j := by omega
    have n3 : ¬ j = N + 3 := by omega
    have n4 : ¬ N + 3 = j := by omega
    have n5 : ¬ j = 0 := by omega
    have n6 : ¬ 0 = j := by omega
    have n7 : ¬ j = 1 := by omega
    have n8 : ¬ 1 = j := by omega
    rw [hlen] at hpl
    have e : Ends (Run X (.code xf28l0) tm σ) .normal fun tm' σ' => tm'.length = 29 ∧ XOpd.eval tm' (.t 2) = .list 1 (ints L) none ∧ XOpd.eval tm' (.t 3) = .ptr 0 0 ∧ XOpd.eval tm' (.t 4) = .ptr 1 0 ∧ XOpd.eval tm' (.t 8) = .int .i64 ((i + 1 : Nat) : Int) ∧
        σ'.get 0 = some (.cells [.int .i64 q, .int .i64 g.lo, .int .i64 g.hi, .int .i64 g.r]) ∧ σ'.get 1 = some (.cells [.int .i64 r.b, .int .i64 r.n, .int .i64 r.d, .int .i64 r.s]) ∧ σ'.next = N + 4 ∧ XOpd.eval tm' (.t 7) = .vlist 3 1 (N + 3) (i + 1) ∧ σ'.get (N + 3) = some (.cells (ints P ++ [.int .i64 q])) := by
      simp [xf28l0, hl, h2, ha, hb, h8, hvo, hx, g0, g1, j3, hlen, hpl, hN, hi, hg, fI, u21, u22, hiw, n1, n2, n3, n4, n5, n6, n7, n8, b1, b2, b3, xload, xappendV, xappendW, ones, AVal.one, AVal.cells, put_next, new_next, Store.get_new, Store.get_put, put_get, setR, only_get, merge_get', only_next, merge_next, upTo_self, upTo_one, merge_only, touch, wrote, isIn, okRec, hits, capsOf, xcaps, stripL, AVal.strip, freeL, AVal.free, fillR, chunks, mkV]
    obtain ⟨o1, p1, p2, p3, p4, p5, p7, p8, p9, p10, p11⟩ := out_of e
    refine ⟨_, _, o1, p1, p2, p3, p4, p5, p7, p8, by omega, .inr ⟨N + 3, by omega, by omega, ?_, ?_, by simp⟩⟩
    · rw [p10, List.length_append, hlen]; rfl
    · rw [p11, ints_app]
theorem all28 {g : Gt} {r : Rl} {L : List Int} {w : AVal} (hw : IL L w) (h : RIn g r L) (tm : List AVal) (σ : Store) (hI : I28 g r L w 0 tm σ) : Ends (Run X (.code (.loop xf28l0)) tm σ) (.exit 0) fun tm' σ' => tm'.length = 29 ∧ OutV 3 σ' 2 (posL g r L L.length) (XOpd.eval tm' (.t 7)) := by
  refine loop_all L.length (I28 g r L w) (by simp) (fun i tm σ hi hI => round28 hX hw h i hi tm σ hI) (fun tm σ hI => ?_) tm σ hI
  obtain ⟨hl, h2, ha, hb, h8, g0, g1, nx, ho⟩ := hI
  have hx := hw.xlen
  simp [xf28l0, hl, h2, h8, hx]
  exact ho
set_option maxHeartbeats 4000000 in
theorem u28 {g : Gt} {r : Rl} {L : List Int} {w : AVal} (hw : IL L w) (ri : RIn g r L) (σ : Store) : Run X (.call 28) [.agg [.int .i64 g.p, .int .i64 g.lo, .int .i64 g.hi, .int .i64 g.r], .agg [.int .i64 r.b, .int .i64 r.n, .int .i64 r.d, .int .i64 r.s], w] σ = some (.ret, [il (posL g r L L.length)], σ) := by
  refine call3S (a := .agg [.int .i64 g.p, .int .i64 g.lo, .int .i64 g.hi, .int .i64 g.r]) (b := .agg [.int .i64 r.b, .int .i64 r.n, .int .i64 r.d, .int .i64 r.s]) hX.h28 rfl rfl (by rw [hw.strip]; exact hw.free) (by decide) (fun tm hl h0 h1 h2 => ?_) σ
  rw [hw.strip] at h2
  simp only [AVal.strip, stripL] at h0 h1
  replace hl : tm.length = 29 := hl
  unfold Seals
  have eP : Ends (Run X (.code (XCode.cutP 2 xf28.body)) tm Store.empty) .normal (I28 g r L w 0) := by
    simp [I28, OutV, posL, pS, xf28, XCode.cutP, hl, h0, h1, h2, Store.empty, Store.new, Store.put, Store.get, look, putL, setR, Store.only, Store.merge, touch, wrote, upTo, isIn, okRec, hits, capsOf, xcaps, stripL, AVal.strip, freeL, AVal.free, fillR, chunks, mkV, List.filter]
  have eB : XCode.cutB 2 xf28.body = .block 0 (.loop xf28l0) := rfl
  obtain ⟨o1, o2⟩ := out_of eP
  obtain ⟨q1, q2, q3⟩ := out_of (all28 hX hw ri _ _ o2)
  rw [Run_cut 2, o1, thenC_normal, eB, Run_block, q1, blockC_exit, thenC_normal]
  generalize outT X (.loop xf28l0) _ _ = tm3 at *
  generalize outS X (.loop xf28l0) _ _ = σ3 at *
  have hs := q3.seal
  simp [xf28, XCode.cutR, q2, xresult, xrets, xret_t, hs]
end
end Go.Proofs.YtenlllgjfbifbaaGreat.Eng

/-
  GOVERNOR: the law of limits.
-/
namespace Go.Proofs.YtenlllgjfbifbaaGreat.Eng
set_option linter.unusedSimpArgs false
set_option linter.unusedVariables false
theorem spE_of {n : Int} (h1 : -100000 ≤ n) (h2 : n ≤ 100000) : spE n = 0 := by unfold spE; rw [if_pos (win_iff.2 ⟨h1, h2⟩)]
theorem mv_neg {d b : Int} (hb : 0 ≤ b) : mv (-d) (-b) b = -mv d (-b) b := by unfold mv imin imax; (repeat' split) <;> omega
theorem wan_neg {r : Rl} (h : r.Ok) (d : Int) : wanP r (-d) = 2 * r.s - wanP r d := by
  unfold wanP
  rw [mv_neg h.b0, show -d - -mv d (-r.b) r.b = -(d - mv d (-r.b) r.b) from by omega, Int.mul_neg, Int.neg_tdiv]
  omega
theorem wan_le {r : Rl} (h : r.Ok) {d : Int} (hd : 0 ≤ d) : wanP r d ≤ r.s := by
  have hx : 0 ≤ d - mv d (-r.b) r.b := by have := h.b0; unfold mv imin imax; (repeat' split) <;> omega
  have h1 := Int.mul_nonneg h.n0 hx
  have h2 := Int.ediv_nonneg h1 (by have := h.d0; omega : 0 ≤ r.d)
  unfold wanP
  rw [Int.tdiv_eq_ediv_of_nonneg h1]
  omega
theorem posL_get (g : Gt) (r : Rl) (L : List Int) {n i : Nat} (hi : i < n) : (ints (posL g r L n))[i]? = some (.int .i64 (pS g r L (i + 1))) := by
  simp [ints, posL, hi]
def qS (g : Gt) (w : Int) : Nat → Int
  | 0 => g.p
  | i + 1 => stepP (g.to (qS g w i)) w
theorem qS_ok {g : Gt} (h : g.Ok) (w : Int) : ∀ i, (g.to (qS g w i)).Ok
  | 0 => h
  | i + 1 => by
    have s := step_in (qS_ok h w i) w
    exact Gt.to_ok h s.1 s.2.1
theorem ticks_pos {g : Gt} (h : g.Ok) {w : Int} (ht : ticksP g w ≤ 0) : g.p = goalP g w := by
  by_cases he : g.p = goalP g w
  · exact he
  · have e := ticks_step h w he
    have s := step_in h w
    have := (t_ok (Gt.to_ok h s.1 s.2.1) w).lo
    omega
theorem qS_ticks {g : Gt} (h : g.Ok) (w : Int) : ∀ i : Nat, (i : Int) ≤ ticksP g w → ticksP (g.to (qS g w i)) w = ticksP g w - i
  | 0, _ => by show ticksP g w = _; omega
  | i + 1, hi => by
    have ih := qS_ticks h w i (by omega)
    have ok := qS_ok h w i
    have hne : (g.to (qS g w i)).p ≠ goalP (g.to (qS g w i)) w := fun he => by
      have := ticks_zero ok w he
      omega
    have e := ticks_step ok w hne
    have e2 : (g.to (qS g w i)).to (stepP (g.to (qS g w i)) w) = g.to (qS g w (i + 1)) := rfl
    rw [e2] at e
    omega
theorem qS_ne {g : Gt} (h : g.Ok) (w : Int) {i : Nat} (hi : (i : Int) < ticksP g w) : qS g w i ≠ goalP g w := fun he => by
  have := ticks_zero (qS_ok h w i) w he
  have := qS_ticks h w i (by omega)
  omega
theorem qS_end {g : Gt} (h : g.Ok) (w : Int) {i : Nat} (hi : (i : Int) = ticksP g w) : qS g w i = goalP g w := by
  have := qS_ticks h w i (by omega)
  exact ticks_pos (g := g.to (qS g w i)) (qS_ok h w i) (by omega)
section
variable {X : FuncId → Option XFunc} (hX : GvACode X)
include hX
omit hX in
def I50 (g : Gt) (r : Rl) (L : List Int) (w y : AVal) (i : Nat) (tm : List AVal) (σ : Store) : Prop :=
  tm.length = 242 ∧ XOpd.eval tm (.t 2) = w ∧ XOpd.eval tm (.t 3) = .ptr 0 0 ∧ XOpd.eval tm (.t 4) = .ptr 1 0 ∧ XOpd.eval tm (.t 7) = y ∧ XOpd.eval tm (.t 9) = .int .i64 (pS g r L i) ∧ XOpd.eval tm (.t 10) = .int .i64 i ∧
  σ.get 0 = some (.cells [.int .i64 g.p, .int .i64 g.lo, .int .i64 g.hi, .int .i64 g.r]) ∧ σ.get 1 = some (.cells [.int .i64 r.b, .int .i64 r.n, .int .i64 r.d, .int .i64 r.s]) ∧ σ.next = 2
set_option maxHeartbeats 8000000 in
theorem round50 {g : Gt} {r : Rl} {L : List Int} {w y : AVal} (hw : IL L w) (hy : IL (posL g r L L.length) y) (h : RIn g r L) (hre : r.e = 0) (i : Nat) (hi : i < L.length) (tm : List AVal) (σ : Store) (hI : I50 g r L w y i tm σ) : Ends (Run X (.code xf5l0) tm σ) .normal (I50 g r L w y (i + 1)) := by
  obtain ⟨hl, h2, ha, hb, h7, h9, h10, g0, g1, nx⟩ := hI
  have hn := h.n
  have hiw : IntKind.i64.wrap ((i : Int) + 1) = ((i + 1 : Nat) : Int) := by rw [wrap_i64] <;> omega
  have hyx := hy.xlen
  rw [posL_len] at hyx
  have hwl := hw.list (by omega)
  subst hwl
  have hyl := hy.list (by rw [posL_len]; omega)
  subst hyl
  rw [down_list] at hyx
  have hg := ints_get hi
  have hp := posL_get g r L hi
  have hgd : L.getD i 0 = L[i] := by simp [hi]
  have hd := h.d i hi
  rw [hgd] at hd
  have hok := h.at i
  have t := t_ok hok (wanP r L[i])
  have si := step_in hok (wanP r L[i])
  have eS : pS g r L (i + 1) = stepP (g.to (pS g r L i)) (wanP r L[i]) := by show stepP _ (wanP r (L.getD i 0)) = _; rw [hgd]
  rw [← eS] at si
  have c1 : win (pS g r L (i + 1)) g.lo g.hi = true := win_iff.2 ⟨si.1, si.2.1⟩
  have c2 : win (pS g r L (i + 1)) (pS g r L i - g.r) (pS g r L i + g.r) = true := win_iff.2 ⟨si.2.2.1, si.2.2.2⟩
  have v1 : IntKind.i64.wrap (pS g r L i - g.r) = pS g r L i - g.r := t.v1
  have v2 : IntKind.i64.wrap (pS g r L i + g.r) = pS g r L i + g.r := t.v2
  have k1 := w_ok h.r hd.1 hd.2
  have s0 := h.r.s0; have s1 := h.r.s1
  have e1 : wfE r L[i] = 0 := by unfold wfE; rw [if_pos hre]; exact spE_of hd.1 hd.2
  have e2 : wfE r (-L[i]) = 0 := by unfold wfE; rw [if_pos hre]; exact spE_of (by omega) (by omega)
  have z13 := u13 hX r L[i]
  have y13 := u13 hX r (-L[i])
  rw [if_pos e1, e1] at z13
  rw [if_pos e2, e2, wan_neg h.r] at y13
  have wd := (v_ok h.r hd.1 hd.2).wd
  have lo := k1.lo; have hh := k1.hi
  have le := fun hd0 : 0 ≤ L[i] => wan_le h.r hd0
  unfold I50
  generalize pS g r L (i + 1) = q at *
  generalize pS g r L i = p at *
  generalize wanP r L[i] = A at *
  obtain ⟨B, hB⟩ : ∃ B, B = 2 * r.s - A := ⟨_, rfl⟩
  rw [← hB] at y13
  have c3 : win A (-1099511627776) 1099511627776 = true := win_iff.2 (by omega)
  have c4 : win B (-1099511627776) 1099511627776 = true := win_iff.2 (by omega)
  have w1 : IntKind.i64.wrap (r.s - B) = r.s - B := wrp (by omega) (by omega)
  have ee : A - r.s = r.s - B := by omega
  have uW := u29 hX
  have fI := ints_fr L
  by_cases hd0 : 0 ≤ L[i]
  · have hle : ¬ r.s < A := by have := le hd0; omega
    simp [xf5l0, hl, h2, ha, hb, h7, h9, h10, g0, g1, hyx, hi, hg, hp, c1, c2, c3, c4, v1, v2, z13, y13, wd, w1, ee, uW, hd0, hle, hiw, xload, AVal.cells, put_next, new_next, Store.get_new, Store.get_put, put_get, setR, only_get, merge_get', only_next, merge_next, upTo_self, upTo_one, merge_only, touch, wrote, isIn, okRec, hits, capsOf, xcaps, stripL, AVal.strip, freeL, AVal.free, fillR, chunks, mkV]
    exact nx
  · simp [xf5l0, hl, h2, ha, hb, h7, h9, h10, g0, g1, hyx, hi, hg, hp, c1, c2, c3, c4, v1, v2, z13, y13, wd, w1, ee, uW, hd0, hiw, xload, AVal.cells, put_next, new_next, Store.get_new, Store.get_put, put_get, setR, only_get, merge_get', only_next, merge_next, upTo_self, upTo_one, merge_only, touch, wrote, isIn, okRec, hits, capsOf, xcaps, stripL, AVal.strip, freeL, AVal.free, fillR, chunks, mkV]
    exact nx
omit hX in
def I51 (g : Gt) (L : List Int) (w : AVal) (d : Int) (i : Nat) (tm : List AVal) (σ : Store) : Prop :=
  tm.length = 242 ∧ XOpd.eval tm (.t 2) = w ∧ XOpd.eval tm (.t 3) = .ptr 0 0 ∧ XOpd.eval tm (.t 15) = .int .i64 (ticksP g d) ∧ XOpd.eval tm (.t 17) = .int .i64 (goalP g d) ∧ XOpd.eval tm (.t 18) = .ptr 2 0 ∧ XOpd.eval tm (.t 19) = .int .i64 i ∧
  σ.get 0 = some (.cells [.int .i64 g.p, .int .i64 g.lo, .int .i64 g.hi, .int .i64 g.r]) ∧ σ.get 2 = some (.cells [.int .i64 (qS g d i), .int .i64 g.lo, .int .i64 g.hi, .int .i64 g.r]) ∧ 3 ≤ σ.next
set_option maxHeartbeats 8000000 in
theorem round51 {g : Gt} {L : List Int} {w : AVal} {d : Int} (hw : w = .list 1 (ints L) none) (h0 : (ints L)[0]? = some (.int .i64 d)) (hg : g.Ok) (d0 : -100000 ≤ d) (d1 : d ≤ 100000) (i : Nat) (hi : (i : Int) < ticksP g d) (hi3 : i < 300) (tm : List AVal) (σ : Store) (hI : I51 g L w d i tm σ) : Ends (Run X (.code xf5l1) tm σ) .normal (I51 g L w d (i + 1)) := by
  obtain ⟨hl, h2, ha, h15, h17, h18, h19, g0, g2, nx⟩ := hI
  obtain ⟨N, hN⟩ : ∃ N, σ.next = N + 3 := ⟨σ.next - 3, by omega⟩
  subst hw
  have hiw : IntKind.i64.wrap ((i : Int) + 1) = ((i + 1 : Nat) : Int) := by rw [wrap_i64] <;> omega
  have hne := qS_ne hg d hi
  have ok := qS_ok hg d i
  have u14 := u14 hX (g.to (qS g d i)) d
  have e1 : gsE (g.to (qS g d i)) d = 0 := by unfold gsE; rw [if_pos (Gt.e_ok ok)]; exact spE_of d0 d1
  rw [if_pos e1, e1] at u14
  have eS : stepP (g.to (qS g d i)) d = qS g d (i + 1) := rfl
  have f1 : (g.to (qS g d i)).p = qS g d i := rfl
  have f2 : (g.to (qS g d i)).lo = g.lo := rfl
  have f3 : (g.to (qS g d i)).hi = g.hi := rfl
  have f4 : (g.to (qS g d i)).r = g.r := rfl
  rw [eS, f1, f2, f3, f4] at u14
  have u16 := u16 hX (g.to (qS g d (i + 1)))
  rw [Gt.e_ok (qS_ok hg d (i + 1))] at u16
  have f5 : (g.to (qS g d (i + 1))).p = qS g d (i + 1) := rfl
  have f6 : (g.to (qS g d (i + 1))).lo = g.lo := rfl
  have f7 : (g.to (qS g d (i + 1))).hi = g.hi := rfl
  have f8 : (g.to (qS g d (i + 1))).r = g.r := rfl
  rw [f5, f6, f7, f8] at u16
  have hi3' : (i : Int) < 300 := by omega
  have ix0 : idx (.int .i64 0) = some 0 := rfl
  unfold I51
  generalize qS g d (i + 1) = q at *
  generalize qS g d i = p at *
  simp [xf5l1, hl, h2, ha, h15, h17, h18, h19, g0, g2, hN, hi, hi3', hne, h0, ix0, u14, u16, hiw, xload, AVal.cells, AVal.one, put_next, new_next, Store.get_new, Store.get_put, put_get, setR, only_get, merge_get', only_next, merge_next, upTo_self, upTo_one, merge_only, touch, wrote, isIn, okRec, hits, capsOf, xcaps, stripL, AVal.strip, freeL, AVal.free, fillR, chunks, mkV]
end
end Go.Proofs.YtenlllgjfbifbaaGreat.Eng

/-
  GOVERNOR: the law of limits, whole.
-/
namespace Go.Proofs.YtenlllgjfbifbaaGreat.Eng
set_option linter.unusedSimpArgs false
set_option linter.unusedVariables false
section
variable {X : FuncId → Option XFunc} (hX : GvACode X)
include hX
theorem all50 {g : Gt} {r : Rl} {L : List Int} {w y : AVal} (hw : IL L w) (hy : IL (posL g r L L.length) y) (h : RIn g r L) (hre : r.e = 0) (tm : List AVal) (σ : Store) (hI : I50 g r L w y 0 tm σ) : Ends (Run X (.code (.loop xf5l0)) tm σ) (.exit 0) fun tm' σ' => tm'.length = 242 ∧ XOpd.eval tm' (.t 2) = w ∧ XOpd.eval tm' (.t 3) = .ptr 0 0 ∧
    σ'.get 0 = some (.cells [.int .i64 g.p, .int .i64 g.lo, .int .i64 g.hi, .int .i64 g.r]) ∧ σ'.next = 2 := by
  refine loop_all L.length (I50 g r L w y) (by simp) (fun i tm σ hi hI => round50 hX hw hy h hre i hi tm σ hI) (fun tm σ hI => ?_) tm σ hI
  obtain ⟨hl, h2, ha, hb, h7, h9, h10, g0, g1, nx⟩ := hI
  have hyx := hy.xlen
  rw [posL_len] at hyx
  simp [xf5l0, hl, h7, h10, hyx, h2, ha, g0, nx]
theorem all51 {g : Gt} {L : List Int} {w : AVal} {d : Int} (hw : w = .list 1 (ints L) none) (h0 : (ints L)[0]? = some (.int .i64 d)) (hg : g.Ok) (d0 : -100000 ≤ d) (d1 : d ≤ 100000) (tm : List AVal) (σ : Store) (hI : I51 g L w d 0 tm σ) : Ends (Run X (.code (.loop xf5l1)) tm σ) (.exit 2) fun tm' σ' => tm'.length = 242 ∧ XOpd.eval tm' (.t 15) = .int .i64 (ticksP g d) ∧ XOpd.eval tm' (.t 17) = .int .i64 (goalP g d) ∧ XOpd.eval tm' (.t 18) = .ptr 2 0 ∧
    ∃ q, σ'.get 2 = some (.cells [.int .i64 q, .int .i64 g.lo, .int .i64 g.hi, .int .i64 g.r]) ∧ (300 < ticksP g d ∨ q = goalP g d) := by
  have tl := (t_ok hg d).lo
  obtain ⟨n, hn⟩ : ∃ n : Nat, (n : Int) = ticksP g d := ⟨(ticksP g d).toNat, by omega⟩
  obtain ⟨m, hm⟩ : ∃ m : Nat, m = min n 300 := ⟨_, rfl⟩
  refine loop_all m (I51 g L w d) (by simp) (fun i tm σ hi hI => round51 hX hw h0 hg d0 d1 i (by omega) (by omega) tm σ hI) (fun tm σ hI => ?_) tm σ hI
  obtain ⟨hl, h2, ha, h15, h17, h18, h19, g0, g2, nx⟩ := hI
  by_cases c : n ≤ 300
  · have e1 : ¬ (m : Int) < ticksP g d := by omega
    have e2 := qS_end hg d (i := m) (by omega)
    simp [xf5l1, hl, h15, h17, h18, h19, e1]
    exact ⟨_, g2, .inr e2⟩
  · have e1 : (m : Int) < ticksP g d := by omega
    have e3 : ¬ (m : Int) < 300 := by omega
    simp [xf5l1, hl, h15, h17, h18, h19, e1, e3]
    exact ⟨_, g2, .inl (by omega)⟩
set_option maxHeartbeats 8000000 in
theorem u5 (hA : ∀ σ, Run X (.call 12) [] σ = some (.ret, [.bool true], σ)) (g : Gt) (r : Rl) {L : List Int} {w : AVal} (hw : IL L w) (σ : Store) : Run X (.call 5) [g.enc, r.enc, w] σ = some (.ret, [.bool true], σ) := by
  have hx := hw.xlen
  have z16 := u16 hX g; have z17 := u17 hX r
  have hsw := hw.strip; have hfw := hw.free; have fI := ints_fr L
  refine call3 (a := g.enc) (b := r.enc) (v := .bool true) hX.h5 rfl rfl (by rw [hw.strip]; exact hw.free) (by decide) (fun tm hl h0 h1 h2 => ?_) rfl σ
  rw [hw.strip] at h2
  simp only [AVal.strip, stripL, Gt.enc, Rl.enc] at h0 h1
  replace hl : tm.length = 242 := hl
  unfold Gives
  by_cases c1 : g.e = 0
  case neg => simp [xf5, hl, h0, h1, h2, hA, z16, c1, Store.empty, Store.new, Store.put, Store.get, look, putL, setR, Store.only, Store.merge, touch, wrote, upTo, isIn, okRec, hits, capsOf, xcaps, stripL, AVal.strip, freeL, AVal.free, fillR, chunks, mkV, List.filter]; done
  by_cases c2 : r.e = 0
  case neg => simp [xf5, hl, h0, h1, h2, hA, z16, z17, c1, c2, Store.empty, Store.new, Store.put, Store.get, look, putL, setR, Store.only, Store.merge, touch, wrote, upTo, isIn, okRec, hits, capsOf, xcaps, stripL, AVal.strip, freeL, AVal.free, fillR, chunks, mkV, List.filter]; done
  by_cases c3 : (60 : Int) < L.length
  · simp [xf5, hl, h0, h1, h2, hA, z16, z17, hx, c1, c2, c3, Store.empty, Store.new, Store.put, Store.get, look, putL, setR, Store.only, Store.merge, touch, wrote, upTo, isIn, okRec, hits, capsOf, xcaps, stripL, AVal.strip, freeL, AVal.free, fillR, chunks, mkV, List.filter]
  have z26 := u26 hX hw (by omega)
  by_cases c4 : dvE L = 0
  case neg => simp [xf5, hl, h0, h1, h2, hA, z16, z17, z26, hx, hsw, hfw, c1, c2, c3, c4, Store.empty, Store.new, Store.put, Store.get, look, putL, setR, Store.only, Store.merge, touch, wrote, upTo, isIn, okRec, hits, capsOf, xcaps, stripL, AVal.strip, freeL, AVal.free, fillR, chunks, mkV, List.filter]; done
  have cr : rnE g r L = 0 := by unfold rnE; rw [if_pos c1, if_pos c2]; exact c4
  have ri := rnE_in cr
  have z25 := u25 hX hw (by omega)
  have z24 := u24 hX g r (L := L) (w := .list 1 (ints L) none) (.inr rfl) (by omega)
  rw [if_pos cr, cr] at z24
  have hy := il_IL (posL g r L L.length)
  have hy1 := hy.strip; have hy2 := hy.free; have hyx := hy.xlen
  rw [posL_len] at hyx
  have eP : Ends (Run X (.code (XCode.cutP 6 xf5.body)) tm Store.empty) .normal (I50 g r L w (il (posL g r L L.length)) 0) := by
    generalize il (posL g r L L.length) = y at *
    simp [I50, pS, xf5, XCode.cutP, hl, h0, h1, h2, hA, z16, z17, z26, z25, z24, hx, hyx, hsw, hfw, hy1, hy2, fI, freeL_strip fI, c1, c2, c3, c4, Store.empty, Store.new, Store.put, Store.get, look, putL, setR, Store.only, Store.merge, touch, wrote, upTo, isIn, okRec, hits, capsOf, xcaps, stripL, AVal.strip, freeL, AVal.free, fillR, chunks, mkV, List.filter]
  have eB : XCode.cutB 6 xf5.body = .block 0 (.loop xf5l0) := rfl
  obtain ⟨o1, o2⟩ := out_of eP
  obtain ⟨q1, q2, q3, q4, q5, q6⟩ := out_of (all50 hX hw hy ri c2 _ _ o2)
  rw [Run_cut 6, o1, thenC_normal, eB, Run_block, q1, blockC_exit, thenC_normal]
  generalize outT X (.loop xf5l0) _ _ = tm3 at *
  generalize outS X (.loop xf5l0) _ _ = σ3 at *
  clear eP o1 o2 q1
  by_cases c5 : L.length = 0
  · rw [c5] at hx
    simp [xf5, XCode.cutR, q2, q3, q4, q5, hx, givesR, xresult_one, xret_t, Store.empty, Store.new, Store.put, Store.get, look, putL, setR, Store.only, Store.merge, touch, wrote, upTo, isIn, okRec, hits, capsOf, xcaps, stripL, AVal.strip, freeL, AVal.free, fillR, chunks, mkV, List.filter]
    done
  have hwl := hw.list (by omega)
  have hd := ri.d 0 (by omega)
  have h00 : (ints L)[0]? = some (.int .i64 (L.getD 0 0)) := by
    rw [ints_get (by omega)]; simp [show 0 < L.length from by omega]
  obtain ⟨d, hdd⟩ : ∃ d, d = L.getD 0 0 := ⟨_, rfl⟩
  rw [← hdd] at hd h00
  have z15 := u15 hX g d
  have e15 : gsE g d = 0 := by unfold gsE; rw [if_pos c1]; exact spE_of hd.1 hd.2
  rw [if_pos e15, e15] at z15
  have t := t_ok ri.g d
  have cw : win (ticksP g d) 0 10000 = true := win_iff.2 ⟨t.lo, t.hi⟩
  have z29 := u29 hX
  have ix0 : idx (.int .i64 0) = some 0 := rfl
  have hl0 : ¬ (L.length : Int) = 0 := by omega
  have eP2 : Ends (Run X (.code (XCode.cutP 5 (XCode.cutR 6 xf5.body))) tm3 σ3) .normal (I51 g L w d 0) := by
    have eg : goalP g d = imin (imax d g.lo) g.hi := rfl
    subst hwl
    rw [down_list] at hx
    unfold I51
    simp only [qS]
    rw [eg]
    simp [xf5, XCode.cutP, XCode.cutR, q2, q3, q4, q5, q6, hx, c5, h00, ix0, z15, cw, z29, xext, xmm_max, xmm_min, xload, AVal.cells, AVal.one, put_next, new_next, Store.get_new, Store.get_put, put_get, setR, only_get, merge_get', only_next, merge_next, upTo_self, upTo_one, merge_only, touch, wrote, isIn, okRec, hits, capsOf, xcaps, stripL, AVal.strip, freeL, AVal.free, fillR, chunks, mkV]
    rfl
  have eB2 : XCode.cutB 5 (XCode.cutR 6 xf5.body) = .block 2 (.loop xf5l1) := rfl
  obtain ⟨p1, p2⟩ := out_of eP2
  obtain ⟨s1, s2, s3, s4, s5, q, s6, s7⟩ := out_of (all51 hX hwl h00 ri.g hd.1 hd.2 _ _ p2)
  rw [Run_cut 5, p1, thenC_normal, eB2, Run_block, s1, blockC_exit, thenC_normal]
  generalize outT X (.loop xf5l1) _ _ = tm5 at *
  generalize outS X (.loop xf5l1) _ _ = σ5 at *
  clear eP2 p1 p2 s1
  by_cases c6 : 300 < ticksP g d
  · simp [xf5, XCode.cutR, s2, s3, s4, s5, s6, c6, givesR, xresult_one, xret_t, put_next, new_next, Store.get_new, Store.get_put, put_get, setR, only_get, merge_get', only_next, merge_next, upTo_self, upTo_one, merge_only, touch, wrote, isIn, okRec, hits, capsOf, xcaps, stripL, AVal.strip, freeL, AVal.free, fillR, chunks, mkV]
  · have e7 : q = goalP g d := by rcases s7 with h | h; exact absurd h c6; exact h
    simp [xf5, XCode.cutR, s2, s3, s4, s5, s6, c6, e7, xload, givesR, xresult_one, xret_t, put_next, new_next, Store.get_new, Store.get_put, put_get, setR, only_get, merge_get', only_next, merge_next, upTo_self, upTo_one, merge_only, touch, wrote, isIn, okRec, hits, capsOf, xcaps, stripL, AVal.strip, freeL, AVal.free, fillR, chunks, mkV]
end
end Go.Proofs.YtenlllgjfbifbaaGreat.Eng
