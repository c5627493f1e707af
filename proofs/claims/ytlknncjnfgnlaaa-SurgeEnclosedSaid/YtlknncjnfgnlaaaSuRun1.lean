/-
  SURGE: rules, states, steps.
-/
import Derived.Test.YtlknncjnfgnlaaaCode1
import Derived.Test.YtlknncjnfgnlaaaEng2
namespace Go.Proofs.Ytlknncjnfgnlaaa.Eng
set_option linter.unusedSimpArgs false
set_option linter.unusedVariables false

def win (a b c : Int) : Bool := decide (b ≤ a) && decide (a ≤ c)
theorem win_iff {a b c : Int} : win a b c = true ↔ b ≤ a ∧ a ≤ c := by simp [win]
def firstNZ : List Int → Int
  | [] => 0
  | e :: l => if e = 0 then firstNZ l else e
/-- Rules. -/
structure Ru where
  n : Int
  a : Int
  lo : Int
  hi : Int
  th : Int
def Ru.enc (r : Ru) : AVal := .agg [.int .i64 r.n, .int .i64 r.a, .int .i64 r.lo, .int .i64 r.hi, .int .i64 r.th]
def Ru.ch (r : Ru) : AVal := .agg [.int .i64 r.n, .int .i64 r.a, .int .i64 r.lo, .int .i64 r.hi, .int .i64 r.th, .int .i64 r.lo, .int .i64 r.hi]
def ch0 : AVal := .agg [.int .i64 0, .int .i64 0, .int .i64 0, .int .i64 0, .int .i64 0, .int .i64 0, .int .i64 0]
def Ru.e (r : Ru) : Int := if win r.lo 0 100 && win r.hi 0 100 && win r.th 0 100 && win r.n 1 1000 && win r.a 1 1000 then (if r.lo ≤ r.hi then (if 2001 * r.hi + 4001 * r.th + 2000 ≤ 1000 * r.n then 0 else 13) else 9) else 2
structure Ru.Ok (r : Ru) : Prop where
  n : 1 ≤ r.n ∧ r.n ≤ 1000
  a : 1 ≤ r.a ∧ r.a ≤ 1000
  lo : 0 ≤ r.lo ∧ r.lo ≤ 100
  hi : 0 ≤ r.hi ∧ r.hi ≤ 100
  th : 0 ≤ r.th ∧ r.th ≤ 100
  le : r.lo ≤ r.hi
  cl : 2001 * r.hi + 4001 * r.th + 2000 ≤ 1000 * r.n
theorem Ru.ok {r : Ru} (h : r.e = 0) : r.Ok := by
  unfold Ru.e at h
  split at h
  · rename_i h1
    simp only [Bool.and_eq_true, win_iff] at h1
    split at h
    · split at h
      · exact ⟨h1.1.2, h1.2, h1.1.1.1.1, h1.1.1.1.2, h1.1.1.2, by assumption, by assumption⟩
      · omega
    · omega
  · omega
def stE (s : Int × Int) : Int := if win s.1 (-100000) 100000 && win s.2 (-1000) 1000 then 0 else 2
def ldE (u : Int) : Int := if win u 0 1000 then 0 else 2
def frE (r : Ru) (k : Int) : Int := if win k r.lo r.hi then 0 else 2
def st (s : Int × Int) : AVal := .agg [.int .i64 s.1, .int .i64 s.2]
def sq (q : Int) : Int := if q < -q then -q else q
def loss (k q : Int) : Int := (k * q * sq q).tdiv 1000
def clampQ (f : Int) : Int := if f < -1000 then -1000 else if 1000 < f then 1000 else f
def headS (r : Ru) (s : Int × Int) (u k : Int) : Int := s.1 + loss k s.2 + loss r.th (s.2 - u)
def stepQ (r : Ru) (s : Int × Int) (u k : Int) : Int := clampQ (s.2 - headS r s u k / r.n)
def stepS (r : Ru) (s : Int × Int) (u k : Int) : Int × Int := (s.1 + (stepQ r s u k - u) / r.a, stepQ r s u k)
theorem floor_eq {n d : Int} (hd : 0 < d) : (if n.tmod d < 0 then n.tdiv d - 1 else n.tdiv d) = n / d := by
  rw [Int.tmod_eq_emod, Int.tdiv_eq_ediv]
  have h0 := Int.emod_nonneg n (Int.ne_of_gt hd)
  have h1 := Int.emod_lt_of_pos n hd
  have hn : (d.natAbs : Int) = d := by omega
  have hs : d.sign = 1 := Int.sign_eq_one_of_pos hd
  by_cases hc : 0 ≤ n ∨ d ∣ n
  · rw [if_pos hc, if_pos hc]; split <;> omega
  · rw [if_neg hc, if_neg hc, hs, hn]; split <;> omega
theorem sq_bd {q M : Int} (h1 : -M ≤ q) (h2 : q ≤ M) : 0 ≤ sq q ∧ sq q ≤ M := by unfold sq; split <;> omega
theorem mul_bd {a b A B : Int} (a1 : -A ≤ a) (a2 : a ≤ A) (b1 : -B ≤ b) (b2 : b ≤ B) : -(A * B) ≤ a * b ∧ a * b ≤ A * B := by
  have h1 : 0 ≤ (A - a) * (B - b) := Int.mul_nonneg (by omega) (by omega)
  have h2 : 0 ≤ (A + a) * (B + b) := Int.mul_nonneg (by omega) (by omega)
  have h3 : 0 ≤ (A - a) * (B + b) := Int.mul_nonneg (by omega) (by omega)
  have h4 : 0 ≤ (A + a) * (B - b) := Int.mul_nonneg (by omega) (by omega)
  rw [Int.sub_mul, Int.mul_sub, Int.mul_sub] at h1
  rw [Int.add_mul, Int.mul_add, Int.mul_add] at h2
  rw [Int.sub_mul, Int.mul_add, Int.mul_add] at h3
  rw [Int.add_mul, Int.mul_sub, Int.mul_sub] at h4
  constructor <;> omega
theorem tdiv_bd {x M : Int} (h1 : -(M * 1000) ≤ x) (h2 : x ≤ M * 1000) : -M ≤ x.tdiv 1000 ∧ x.tdiv 1000 ≤ M := by
  have hs : Int.sign 1000 = 1 := rfl
  rw [Int.tdiv_eq_ediv, hs]; split <;> omega
structure LossOk (k q : Int) : Prop where
  w1 : IntKind.i64.wrap (k * q) = k * q
  w2 : IntKind.i64.wrap (k * q * sq q) = k * q * sq q
  w0 : IntKind.i64.wrap (-q) = -q
  w3 : IntKind.i64.wrap (loss k q) = loss k q
  lo : -400000 ≤ loss k q
  hi : loss k q ≤ 400000
theorem loss_ok {k q : Int} (k0 : 0 ≤ k) (k1 : k ≤ 100) (q0 : -2000 ≤ q) (q1 : q ≤ 2000) : LossOk k q := by
  have h1 := mul_bd (a := k) (b := q) (A := 100) (B := 2000) (by omega) (by omega) (by omega) (by omega)
  have h2 := sq_bd (M := 2000) q0 q1
  have h3 := mul_bd (a := k * q) (b := sq q) (A := 200000) (B := 2000) (by omega) (by omega) (by omega) (by omega)
  have h4 := tdiv_bd (x := k * q * sq q) (M := 400000) (by omega) (by omega)
  refine ⟨by rw [wrap_i64] <;> omega, by rw [wrap_i64] <;> omega, by rw [wrap_i64] <;> omega, ?_, h4.1, h4.2⟩
  unfold loss
  rw [wrap_i64] <;> omega
theorem div_bd {x d M : Int} (hd : 0 < d) (h1 : -M ≤ x) (h2 : x ≤ M) (hM : 0 ≤ M) : -M ≤ x / d ∧ x / d ≤ M := by
  constructor
  · rw [Int.le_ediv_iff_mul_le hd]
    have : M * 1 ≤ M * d := Int.mul_le_mul_of_nonneg_left (by omega) hM
    rw [Int.neg_mul]; omega
  · have h3 : x / d ≤ M / d := Int.ediv_le_ediv hd h2
    have h4 := Int.ediv_le_self (b := d) hM
    omega
section
variable {X : FuncId → Option XFunc} (hX : SuACode X)
include hX
theorem u37 (a b c : Int) (σ : Store) : Run X (.call 37) [.int .i64 a, .int .i64 b, .int .i64 c] σ = some (.ret, [.bool (win a b c)], σ) := by
  refine call3 (v := .bool (win a b c)) hX.h37 rfl rfl rfl (by decide) (fun tm hl h0 h1 h2 => ?_) rfl σ
  simp only [AVal.strip] at h0 h1 h2
  replace hl : tm.length = 15 := hl
  unfold Gives
  by_cases e1 : b ≤ a <;> simp [xf37, hl, h0, h1, h2, e1, win]
theorem u121 (a b c : Int) (σ : Store) : Run X (.call 121) [.int .i64 a, .int .i64 b, .int .i64 c] σ = some (.ret, [.bool (win a b c)], σ) := by
  refine call3 (v := .bool (win a b c)) hX.h121 rfl rfl rfl (by decide) (fun tm hl h0 h1 h2 => ?_) rfl σ
  simp only [AVal.strip] at h0 h1 h2
  replace hl : tm.length = 15 := hl
  unfold Gives
  by_cases e1 : b ≤ a <;> simp [xf121, hl, h0, h1, h2, e1, win]
theorem u81 (c : Bool) (e : Int) (σ : Store) : Run X (.call 81) [.bool c, .int .i64 e] σ = some (.ret, [.int .i64 (if c then 0 else e)], σ) := by
  refine call2 (v := .int .i64 (if c then 0 else e)) hX.h81 rfl rfl (by decide) (fun tm hl h0 h1 => ?_) rfl σ
  simp only [AVal.strip] at h0 h1
  replace hl : tm.length = 7 := hl
  unfold Gives
  cases c <;> simp [xf81, hl, h0, h1]
theorem u79 (a b c : Int) (σ : Store) : Run X (.call 79) [.int .i64 a, .int .i64 b, .int .i64 c] σ = some (.ret, [.int .i64 (if win a b c then 0 else 2)], σ) := by
  refine call3 (v := .int .i64 (if win a b c then 0 else 2)) hX.h79 rfl rfl rfl (by decide) (fun tm hl h0 h1 h2 => ?_) rfl σ
  simp only [AVal.strip] at h0 h1 h2
  replace hl : tm.length = 12 := hl
  unfold Gives
  simp [xf79, hl, h0, h1, h2, u121 hX, u81 hX]
theorem u80 (a : Int) (σ : Store) : Run X (.call 80) [.int .i64 a] σ = some (.ret, [.int .i64 (if win a 0 100 then 0 else 2)], σ) := by
  refine call1 (v := .int .i64 (if win a 0 100 then 0 else 2)) hX.h80 rfl (by decide) (fun tm hl h0 => ?_) rfl σ
  simp only [AVal.strip] at h0
  replace hl : tm.length = 5 := hl
  unfold Gives
  simp [xf80, hl, h0, u79 hX]
theorem u116 (a : Int) (σ : Store) : Run X (.call 116) [.int .i64 a] σ = some (.ret, [.int .i64 (if win a (-100000) 100000 then 0 else 2)], σ) := by
  refine call1 (v := .int .i64 (if win a (-100000) 100000 then 0 else 2)) hX.h116 rfl (by decide) (fun tm hl h0 => ?_) rfl σ
  simp only [AVal.strip] at h0
  replace hl : tm.length = 5 := hl
  unfold Gives
  simp [xf116, hl, h0, u79 hX]
theorem u117 (a : Int) (σ : Store) : Run X (.call 117) [.int .i64 a] σ = some (.ret, [.int .i64 (if win a (-1000) 1000 then 0 else 2)], σ) := by
  refine call1 (v := .int .i64 (if win a (-1000) 1000 then 0 else 2)) hX.h117 rfl (by decide) (fun tm hl h0 => ?_) rfl σ
  simp only [AVal.strip] at h0
  replace hl : tm.length = 5 := hl
  unfold Gives
  simp [xf117, hl, h0, u79 hX]
theorem u118 (a : Int) (σ : Store) : Run X (.call 118) [.int .i64 a] σ = some (.ret, [.bool (win a 0 1000)], σ) := by
  refine call1 (v := .bool (win a 0 1000)) hX.h118 rfl (by decide) (fun tm hl h0 => ?_) rfl σ
  simp only [AVal.strip] at h0
  replace hl : tm.length = 5 := hl
  unfold Gives
  simp [xf118, hl, h0, u121 hX]
theorem u76 (a : Int) (σ : Store) : Run X (.call 76) [.int .i64 a] σ = some (.ret, [.int .i64 (ldE a)], σ) := by
  refine call1 (v := .int .i64 (ldE a)) hX.h76 rfl (by decide) (fun tm hl h0 => ?_) rfl σ
  simp only [AVal.strip] at h0
  replace hl : tm.length = 6 := hl
  unfold Gives
  simp [xf76, hl, h0, u118 hX, u81 hX, ldE]
theorem u20 (a : Int) (σ : Store) : Run X (.call 20) [.int .i64 a] σ = some (.ret, [.int .i64 (ldE a)], σ) := by
  refine call1 (v := .int .i64 (ldE a)) hX.h20 rfl (by decide) (fun tm hl h0 => ?_) rfl σ
  simp only [AVal.strip] at h0
  replace hl : tm.length = 6 := hl
  unfold Gives
  cases c : win a 0 1000 <;> simp [xf20, hl, h0, u37 hX, ldE, c]
omit hX in
theorem loop74 (es : List Int) (hn : es.length ≤ 1000000000) : ∀ (k i : Nat), i + k = es.length → ∀ (tm : List AVal) (σ : Store), tm.length = 15 → XOpd.eval tm (.t 5) = .list 1 (es.map (.int .i64)) none → XOpd.eval tm (.t 6) = .int .i64 es.length → XOpd.eval tm (.t 7) = .int .i64 i →
    Ends (Run X (.code (.loop xf74l0)) tm σ) (if firstNZ (es.drop i) = 0 then .exit 0 else .ret) fun tm' _ => tm'.length = 15 ∧ (firstNZ (es.drop i) ≠ 0 → XOpd.eval tm' (.t 2) = .int .i64 (firstNZ (es.drop i)))
  | 0, i, hk, tm, σ, hl, h5, h6, h7 => by
    have hi : i = es.length := by omega
    subst hi
    rw [Run_loop]
    simp [xf74l0, hl, h5, h6, h7, firstNZ]
  | k + 1, i, hk, tm, σ, hl, h5, h6, h7 => by
    have hi : i < es.length := by omega
    have hd : es.drop i = es[i] :: es.drop (i + 1) := List.drop_eq_getElem_cons hi
    have hw : IntKind.i64.wrap ((i : Int) + 1) = ((i + 1 : Nat) : Int) := by rw [wrap_i64] <;> omega
    rw [Run_loop, hd]
    by_cases he : es[i] = 0
    · have ih := loop74 es hn k (i + 1) (by omega)
      simp only [firstNZ, he, if_true]
      simp [xf74l0, hl, h5, h6, h7, hi, he, hw, xload, AVal.cells]
      exact ih _ _ (by simp [hl]) (by simp [hl, h5]) (by simp [hl, h6]) (by simp [hl])
    · simp only [firstNZ, he, if_false]
      simp [xf74l0, hl, h5, h6, h7, hi, he, xload, AVal.cells]
omit hX in
theorem ints_free (es : List Int) : freeL (es.map (AVal.int .i64)) = true := by
  induction es with
  | nil => rfl
  | cons e l ih => simp [freeL, AVal.free, ih]
theorem u74 (es : List Int) (hn : es.length ≤ 1000000000) (tok : Option Nat) (σ : Store) : Run X (.call 74) [.list 1 (es.map (.int .i64)) tok] σ = some (.ret, [.int .i64 (firstNZ es)], σ) := by
  refine call1 (v := .int .i64 (firstNZ es)) hX.h74 (by simp [AVal.strip, AVal.free, freeL_strip (ints_free es), ints_free]) (by decide) (fun tm hl h0 => ?_) rfl σ
  simp only [AVal.strip, freeL_strip (ints_free es)] at h0
  replace hl : tm.length = 15 := hl
  have hL := fun tm σ h1 h2 h3 h4 => out_of (loop74 (X := X) es hn es.length 0 (by omega) tm σ h1 h2 h3 h4)
  simp only [List.drop_zero] at hL
  unfold Gives
  by_cases he : firstNZ es = 0
  · simp only [he, if_true] at hL
    simp (maxDischargeDepth := 9) [xf74, hl, h0, hL, he, xlen]
  · simp only [he, if_false] at hL
    simp (maxDischargeDepth := 9) [xf74, hl, h0, hL, he, xlen]
theorem u75 (s : Int × Int) (σ : Store) : Run X (.call 75) [st s] σ = some (.ret, [.int .i64 (stE s)], σ) := by
  have u2 := fun a b tok σ => u74 hX [a, b] (by simp) tok σ
  simp only [List.map_cons, List.map_nil] at u2
  refine call1 (v := .int .i64 (stE s)) hX.h75 rfl (by decide) (fun tm hl h0 => ?_) rfl σ
  simp only [AVal.strip, stripL, st] at h0
  replace hl : tm.length = 11 := hl
  unfold Gives
  cases c1 : win s.1 (-100000) 100000 <;> cases c2 : win s.2 (-1000) 1000 <;> simp [xf75, hl, h0, u116 hX, u117 hX, u2, stE, c1, c2, firstNZ, Store.empty, Store.new, Store.put, Store.get, look, putL, setR, Store.only, Store.merge, touch, wrote, upTo, isIn, okRec, hits, capsOf, xcaps, stripL, AVal.strip, freeL, AVal.free, fillR, chunks, mkV, List.filter]
theorem u18 (s : Int × Int) (σ : Store) : Run X (.call 18) [st s] σ = some (.ret, [.int .i64 (stE s)], σ) := by
  refine call1 (v := .int .i64 (stE s)) hX.h18 rfl (by decide) (fun tm hl h0 => ?_) rfl σ
  simp only [AVal.strip, stripL, st] at h0
  replace hl : tm.length = 13 := hl
  unfold Gives
  cases c1 : win s.1 (-100000) 100000 <;> cases c2 : win s.2 (-1000) 1000 <;> simp [xf18, hl, h0, u37 hX, stE, c1, c2, Store.empty, Store.new, Store.put, Store.get, look, putL, setR, Store.only, Store.merge, touch, wrote, upTo, isIn, okRec, hits, capsOf, xcaps, stripL, AVal.strip, freeL, AVal.free, fillR, chunks, mkV, List.filter]
theorem u21 (r : Ru) (k : Int) (σ : Store) : Run X (.call 21) [r.enc, .int .i64 k] σ = some (.ret, [.int .i64 (frE r k)], σ) := by
  refine call2 (v := .int .i64 (frE r k)) hX.h21 rfl rfl (by decide) (fun tm hl h0 h1 => ?_) rfl σ
  simp only [AVal.strip, stripL, Ru.enc] at h0 h1
  replace hl : tm.length = 14 := hl
  unfold Gives
  cases c1 : win k r.lo r.hi <;> simp [xf21, hl, h0, h1, u37 hX, frE, c1, Store.empty, Store.new, Store.put, Store.get, look, putL, setR, Store.only, Store.merge, touch, wrote, upTo, isIn, okRec, hits, capsOf, xcaps, stripL, AVal.strip, freeL, AVal.free, fillR, chunks, mkV, List.filter]
theorem u77 (r : Ru) (k : Int) (σ : Store) : Run X (.call 77) [r.ch, .int .i64 k] σ = some (.ret, [.int .i64 (frE r k)], σ) := by
  refine call2 (v := .int .i64 (frE r k)) hX.h77 rfl rfl (by decide) (fun tm hl h0 h1 => ?_) rfl σ
  simp only [AVal.strip, stripL, Ru.ch] at h0 h1
  replace hl : tm.length = 15 := hl
  unfold Gives
  simp [xf77, hl, h0, h1, u79 hX, frE, Store.empty, Store.new, Store.put, Store.get, look, putL, setR, Store.only, Store.merge, touch, wrote, upTo, isIn, okRec, hits, capsOf, xcaps, stripL, AVal.strip, freeL, AVal.free, fillR, chunks, mkV, List.filter]
/-- What the check of rules compares, with numbers that went round. -/
def cmpW (r : Ru) : Bool := decide (IntKind.i64.wrap (IntKind.i64.wrap (IntKind.i64.wrap (2001 * r.hi) + IntKind.i64.wrap (4001 * r.th)) + 2000) ≤ IntKind.i64.wrap (1000 * r.n))
omit hX in
theorem rules_eq (r : Ru) : firstNZ [if win r.n 1 1000 then 0 else 2, if win r.a 1 1000 then 0 else 2, if win r.lo 0 100 then 0 else 2, if win r.hi 0 100 then 0 else 2, if win r.th 0 100 then 0 else 2, if decide (r.lo ≤ r.hi) then 0 else 9, if cmpW r then 0 else 13] = r.e := by
  unfold Ru.e
  cases c1 : win r.n 1 1000 <;> cases c2 : win r.a 1 1000 <;> cases c3 : win r.lo 0 100 <;> cases c4 : win r.hi 0 100 <;> cases c5 : win r.th 0 100 <;> simp [firstNZ]
  have e1 := win_iff.1 c1; have e4 := win_iff.1 c4; have e5 := win_iff.1 c5
  have w1 : IntKind.i64.wrap (2001 * r.hi) = 2001 * r.hi := by rw [wrap_i64] <;> omega
  have w2 : IntKind.i64.wrap (4001 * r.th) = 4001 * r.th := by rw [wrap_i64] <;> omega
  have w3 : IntKind.i64.wrap (2001 * r.hi + 4001 * r.th) = 2001 * r.hi + 4001 * r.th := by rw [wrap_i64] <;> omega
  have w4 : IntKind.i64.wrap (2001 * r.hi + 4001 * r.th + 2000) = 2001 * r.hi + 4001 * r.th + 2000 := by rw [wrap_i64] <;> omega
  have w5 : IntKind.i64.wrap (1000 * r.n) = 1000 * r.n := by rw [wrap_i64] <;> omega
  unfold cmpW
  rw [w1, w2, w3, w4, w5]
  by_cases h1 : r.lo ≤ r.hi <;> by_cases h2 : 2001 * r.hi + 4001 * r.th + 2000 ≤ 1000 * r.n <;> simp [h1, h2]
set_option maxHeartbeats 4000000 in
theorem u17 (r : Ru) (σ : Store) : Run X (.call 17) [r.enc] σ = some (.ret, [.int .i64 r.e], σ) := by
  have u2 := fun a b c d e f g tok σ => u74 hX [a, b, c, d, e, f, g] (by simp) tok σ
  simp only [List.map_cons, List.map_nil] at u2
  refine call1 (v := .int .i64 r.e) hX.h17 rfl (by decide) (fun tm hl h0 => ?_) rfl σ
  simp only [AVal.strip, stripL, Ru.enc] at h0
  replace hl : tm.length = 44 := hl
  rw [← rules_eq]
  unfold Gives
  simp [xf17, hl, h0, u79 hX, u80 hX, u81 hX, u2, cmpW, Store.empty, Store.new, Store.put, Store.get, look, putL, setR, Store.only, Store.merge, touch, wrote, upTo, isIn, okRec, hits, capsOf, xcaps, stripL, AVal.strip, freeL, AVal.free, fillR, chunks, mkV, List.filter]
theorem u19 (r : Ru) (s : Int × Int) (σ : Store) : Run X (.call 19) [r.enc, st s] σ = some (.ret, [.int .i64 (if r.e = 0 then stE s else r.e)], σ) := by
  have u2 := fun a b tok σ => u74 hX [a, b] (by simp) tok σ
  simp only [List.map_cons, List.map_nil] at u2
  have u17 := u17 hX r; have u75 := u75 hX s
  simp only [Ru.enc, st] at u17 u75
  refine call2 (v := .int .i64 (if r.e = 0 then stE s else r.e)) hX.h19 rfl rfl (by decide) (fun tm hl h0 h1 => ?_) rfl σ
  simp only [AVal.strip, stripL, Ru.enc, st] at h0 h1
  replace hl : tm.length = 11 := hl
  unfold Gives
  by_cases c1 : r.e = 0 <;> by_cases c2 : stE s = 0 <;> simp [xf19, hl, h0, h1, u17, u75, u2, c1, c2, firstNZ, Store.empty, Store.new, Store.put, Store.get, look, putL, setR, Store.only, Store.merge, touch, wrote, upTo, isIn, okRec, hits, capsOf, xcaps, stripL, AVal.strip, freeL, AVal.free, fillR, chunks, mkV, List.filter]
set_option maxHeartbeats 4000000 in
theorem u16 (r : Ru) (σ : Store) : Run X (.call 16) [r.enc] σ = some (.ret, [.int .i64 r.e], σ) := by
  refine call1 (v := .int .i64 r.e) hX.h16 rfl (by decide) (fun tm hl h0 => ?_) rfl σ
  simp only [AVal.strip, stripL, Ru.enc] at h0
  replace hl : tm.length = 56 := hl
  unfold Gives Ru.e
  cases c3 : win r.lo 0 100
  · simp [xf16, xf16l0, Run_loop, wr1, wr2, wr3, ix1, ix2, hl, h0, u37 hX, c3, Store.empty, Store.new, Store.put, Store.get, look, putL, setR, Store.only, Store.merge, touch, wrote, upTo, isIn, okRec, hits, capsOf, xcaps, stripL, AVal.strip, freeL, AVal.free, fillR, chunks, mkV, List.filter]
  cases c4 : win r.hi 0 100
  · simp [xf16, xf16l0, Run_loop, wr1, wr2, wr3, ix1, ix2, hl, h0, u37 hX, c3, c4, Store.empty, Store.new, Store.put, Store.get, look, putL, setR, Store.only, Store.merge, touch, wrote, upTo, isIn, okRec, hits, capsOf, xcaps, stripL, AVal.strip, freeL, AVal.free, fillR, chunks, mkV, List.filter]
  cases c5 : win r.th 0 100
  · simp [xf16, xf16l0, Run_loop, wr1, wr2, wr3, ix1, ix2, hl, h0, u37 hX, c3, c4, c5, Store.empty, Store.new, Store.put, Store.get, look, putL, setR, Store.only, Store.merge, touch, wrote, upTo, isIn, okRec, hits, capsOf, xcaps, stripL, AVal.strip, freeL, AVal.free, fillR, chunks, mkV, List.filter]
  cases c1 : win r.n 1 1000
  · simp [xf16, xf16l0, Run_loop, wr1, wr2, wr3, ix1, ix2, hl, h0, u37 hX, c3, c4, c5, c1, Store.empty, Store.new, Store.put, Store.get, look, putL, setR, Store.only, Store.merge, touch, wrote, upTo, isIn, okRec, hits, capsOf, xcaps, stripL, AVal.strip, freeL, AVal.free, fillR, chunks, mkV, List.filter]
  cases c2 : win r.a 1 1000
  · simp [xf16, xf16l0, Run_loop, wr1, wr2, wr3, ix1, ix2, hl, h0, u37 hX, c3, c4, c5, c1, c2, Store.empty, Store.new, Store.put, Store.get, look, putL, setR, Store.only, Store.merge, touch, wrote, upTo, isIn, okRec, hits, capsOf, xcaps, stripL, AVal.strip, freeL, AVal.free, fillR, chunks, mkV, List.filter]
  have e1 := win_iff.1 c1; have e4 := win_iff.1 c4; have e5 := win_iff.1 c5
  have w1 : IntKind.i64.wrap (2001 * r.hi) = 2001 * r.hi := by rw [wrap_i64] <;> omega
  have w2 : IntKind.i64.wrap (4001 * r.th) = 4001 * r.th := by rw [wrap_i64] <;> omega
  have w3 : IntKind.i64.wrap (2001 * r.hi + 4001 * r.th) = 2001 * r.hi + 4001 * r.th := by rw [wrap_i64] <;> omega
  have w4 : IntKind.i64.wrap (2001 * r.hi + 4001 * r.th + 2000) = 2001 * r.hi + 4001 * r.th + 2000 := by rw [wrap_i64] <;> omega
  have w5 : IntKind.i64.wrap (1000 * r.n) = 1000 * r.n := by rw [wrap_i64] <;> omega
  by_cases h1 : r.lo ≤ r.hi
  · have h1' : ¬ r.hi < r.lo := by omega
    by_cases h2 : 2001 * r.hi + 4001 * r.th + 2000 ≤ 1000 * r.n
    · have h2' : ¬ 1000 * r.n < 2001 * r.hi + 4001 * r.th + 2000 := by omega
      simp [xf16, xf16l0, Run_loop, wr1, wr2, wr3, ix1, ix2, hl, h0, u37 hX, c3, c4, c5, c1, c2, h1, h1', h2, h2', w1, w2, w3, w4, w5, Store.empty, Store.new, Store.put, Store.get, look, putL, setR, Store.only, Store.merge, touch, wrote, upTo, isIn, okRec, hits, capsOf, xcaps, stripL, AVal.strip, freeL, AVal.free, fillR, chunks, mkV, List.filter]
    · have h2' : 1000 * r.n < 2001 * r.hi + 4001 * r.th + 2000 := by omega
      simp [xf16, xf16l0, Run_loop, wr1, wr2, wr3, ix1, ix2, hl, h0, u37 hX, c3, c4, c5, c1, c2, h1, h1', h2, h2', w1, w2, w3, w4, w5, Store.empty, Store.new, Store.put, Store.get, look, putL, setR, Store.only, Store.merge, touch, wrote, upTo, isIn, okRec, hits, capsOf, xcaps, stripL, AVal.strip, freeL, AVal.free, fillR, chunks, mkV, List.filter]
  · have h1' : r.hi < r.lo := by omega
    simp [xf16, xf16l0, Run_loop, wr1, wr2, wr3, ix1, ix2, hl, h0, u37 hX, c3, c4, c5, c1, c2, h1, h1', Store.empty, Store.new, Store.put, Store.get, look, putL, setR, Store.only, Store.merge, touch, wrote, upTo, isIn, okRec, hits, capsOf, xcaps, stripL, AVal.strip, freeL, AVal.free, fillR, chunks, mkV, List.filter]
theorem u73 (r : Ru) (σ : Store) : Run X (.call 73) [r.enc] σ = some (.ret, [.tup [if r.e = 0 then r.ch else ch0, .int .i64 r.e]], σ) := by
  have u17 := u17 hX r
  simp only [Ru.enc] at u17
  by_cases c : r.e = 0
  · simp only [c, if_true]
    refine call1 (a := r.enc) (v := .tup [r.ch, .int .i64 0]) hX.h73 rfl (by decide) (fun tm hl h0 => ?_) rfl σ
    simp only [AVal.strip, stripL, Ru.enc] at h0
    replace hl : tm.length = 20 := hl
    unfold Gives
    simp [xf73, hl, h0, u17, c, Ru.ch, xresult, xrets, Store.empty, Store.new, Store.put, Store.get, look, putL, setR, Store.only, Store.merge, touch, wrote, upTo, isIn, okRec, hits, capsOf, xcaps, stripL, AVal.strip, freeL, AVal.free, fillR, chunks, mkV, List.filter]
  · simp only [c, if_false]
    refine call1 (a := r.enc) (v := .tup [ch0, .int .i64 r.e]) hX.h73 rfl (by decide) (fun tm hl h0 => ?_) rfl σ
    simp only [AVal.strip, stripL, Ru.enc] at h0
    replace hl : tm.length = 20 := hl
    unfold Gives
    simp [xf73, hl, h0, u17, c, ch0, xresult, xrets, Store.empty, Store.new, Store.put, Store.get, look, putL, setR, Store.only, Store.merge, touch, wrote, upTo, isIn, okRec, hits, capsOf, xcaps, stripL, AVal.strip, freeL, AVal.free, fillR, chunks, mkV, List.filter]
theorem u122 (q : Int) (h : IntKind.i64.wrap (-q) = -q) (σ : Store) : Run X (.call 122) [.int .i64 q] σ = some (.ret, [.int .i64 (sq q)], σ) := by
  refine call1 (v := .int .i64 (sq q)) hX.h122 rfl (by decide) (fun tm hl h0 => ?_) rfl σ
  simp only [AVal.strip] at h0
  replace hl : tm.length = 7 := hl
  unfold Gives sq
  by_cases c : q < -q <;> simp [xf122, hl, h0, h, c, xext, xmm]
theorem u119 {k q : Int} (ok : LossOk k q) (σ : Store) : Run X (.call 119) [.int .i64 k, .int .i64 q] σ = some (.ret, [.int .i64 (loss k q)], σ) := by
  have h0' := ok.w0; have h1' := ok.w1; have h2' := ok.w2; have h3' := ok.w3
  refine call2 (v := .int .i64 (loss k q)) hX.h119 rfl rfl (by decide) (fun tm hl h0 h1 => ?_) rfl σ
  simp only [AVal.strip] at h0 h1
  replace hl : tm.length = 14 := hl
  unfold Gives
  unfold loss sq at *
  by_cases c : q < -q <;> simp only [c, if_true, if_false] at h2' h3' ⊢ <;> simp [xf119, hl, h0, h1, h0', h1', h2', h3', c, xext, xmm]
theorem u82 {k q : Int} (ok : LossOk k q) (σ : Store) : Run X (.call 82) [.int .i64 k, .int .i64 q] σ = some (.ret, [.int .i64 (loss k q)], σ) := by
  have h0' := ok.w0; have h1' := ok.w1; have h2' := ok.w2; have h3' := ok.w3
  refine call2 (v := .int .i64 (loss k q)) hX.h82 rfl rfl (by decide) (fun tm hl h0 h1 => ?_) rfl σ
  simp only [AVal.strip] at h0 h1
  replace hl : tm.length = 12 := hl
  unfold Gives
  unfold loss at *
  simp [xf82, hl, h0, h1, h0', h1', h2', h3', u122 hX]
omit hX in
theorem quo_bd {n d : Int} (hd : 0 < d) (hd2 : d ≤ 1000000) (h1 : -1000000000000 ≤ n) (h2 : n ≤ 1000000000000) : IntKind.i64.wrap (n.tdiv d) = n.tdiv d ∧ IntKind.i64.wrap (n.tdiv d - 1) = n.tdiv d - 1 ∧ IntKind.i64.wrap (n.tmod d) = n.tmod d := by
  have e := floor_eq (n := n) hd
  have b := div_bd (x := n) (M := 1000000000000) hd h1 h2 (by omega)
  have m1 : -d < n.tmod d ∧ n.tmod d < d := by
    have h0 := Int.emod_nonneg n (Int.ne_of_gt hd)
    have h1 := Int.emod_lt_of_pos n hd
    rw [Int.tmod_eq_emod]; split <;> omega
  have q : -1000000000002 ≤ n.tdiv d ∧ n.tdiv d ≤ 1000000000002 := by split at e <;> omega
  refine ⟨?_, ?_, ?_⟩ <;> (rw [wrap_i64] <;> omega)
theorem u120 {n d : Int} (hd : 0 < d) (hd2 : d ≤ 1000000) (h1 : -1000000000000 ≤ n) (h2 : n ≤ 1000000000000) (σ : Store) : Run X (.call 120) [.int .i64 n, .int .i64 d] σ = some (.ret, [.int .i64 (n / d)], σ) := by
  obtain ⟨q1, q2, q3⟩ := quo_bd hd hd2 h1 h2
  have e := floor_eq (n := n) hd
  have hz : ¬ d = 0 := by omega
  refine call2 (v := .int .i64 (n / d)) hX.h120 rfl rfl (by decide) (fun tm hl h0 h3 => ?_) rfl σ
  simp only [AVal.strip] at h0 h3
  replace hl : tm.length = 16 := hl
  unfold Gives
  rw [← e]
  by_cases c : n.tmod d < 0 <;> simp [xf120, hl, h0, h3, hz, q1, q2, q3, c]
theorem u83 {n d : Int} (hd : 0 < d) (hd2 : d ≤ 1000000) (h1 : -1000000000000 ≤ n) (h2 : n ≤ 1000000000000) (σ : Store) : Run X (.call 83) [.int .i64 n, .int .i64 d] σ = some (.ret, [.int .i64 (n / d)], σ) := by
  obtain ⟨q1, q2, q3⟩ := quo_bd hd hd2 h1 h2
  have e := floor_eq (n := n) hd
  have hz : ¬ d = 0 := by omega
  refine call2 (v := .int .i64 (n / d)) hX.h83 rfl rfl (by decide) (fun tm hl h0 h3 => ?_) rfl σ
  simp only [AVal.strip] at h0 h3
  replace hl : tm.length = 16 := hl
  unfold Gives
  rw [← e]
  by_cases c : n.tmod d < 0 <;> simp [xf83, hl, h0, h3, hz, q1, q2, q3, c]
end
end Go.Proofs.Ytlknncjnfgnlaaa.Eng

/-
  SURGE: a step.
-/
namespace Go.Proofs.Ytlknncjnfgnlaaa.Eng
set_option linter.unusedSimpArgs false
set_option linter.unusedVariables false
/-- What a step needs. -/
structure SIn (r : Ru) (s : Int × Int) (u k : Int) : Prop where
  ok : r.Ok
  z0 : -1000000000 ≤ s.1
  z1 : s.1 ≤ 1000000000
  q0 : -1000 ≤ s.2
  q1 : s.2 ≤ 1000
  u0 : 0 ≤ u
  u1 : u ≤ 1000
  k0 : 0 ≤ k
  k1 : k ≤ 100
structure SOut (r : Ru) (s : Int × Int) (u k : Int) : Prop where
  l1 : LossOk k s.2
  l2 : LossOk r.th (s.2 - u)
  w0 : IntKind.i64.wrap (s.2 - u) = s.2 - u
  w1 : IntKind.i64.wrap (s.1 + loss k s.2) = s.1 + loss k s.2
  w2 : IntKind.i64.wrap (headS r s u k) = headS r s u k
  h0 : -1000000000000 ≤ headS r s u k
  h1 : headS r s u k ≤ 1000000000000
  w3 : IntKind.i64.wrap (s.2 - headS r s u k / r.n) = s.2 - headS r s u k / r.n
  c0 : -1000 ≤ stepQ r s u k
  c1 : stepQ r s u k ≤ 1000
  w4 : IntKind.i64.wrap (stepQ r s u k - u) = stepQ r s u k - u
  d0 : -2000 ≤ (stepQ r s u k - u) / r.a
  d1 : (stepQ r s u k - u) / r.a ≤ 2000
  w5 : IntKind.i64.wrap (s.1 + (stepQ r s u k - u) / r.a) = s.1 + (stepQ r s u k - u) / r.a
theorem clampQ_in (f : Int) : -1000 ≤ clampQ f ∧ clampQ f ≤ 1000 := by unfold clampQ; split <;> (try split) <;> omega
theorem s_out {r : Ru} {s : Int × Int} {u k : Int} (i : SIn r s u k) : SOut r s u k := by
  have z0 := i.z0; have z1 := i.z1; have q0 := i.q0; have q1 := i.q1; have u0 := i.u0; have u1 := i.u1; have k0 := i.k0; have k1 := i.k1
  have hn := i.ok.n; have ha := i.ok.a; have ht := i.ok.th
  have l1 := loss_ok k0 k1 (q := s.2) (by omega) (by omega)
  have l2 := loss_ok ht.1 ht.2 (q := s.2 - u) (by omega) (by omega)
  have a1 := l1.lo; have a2 := l1.hi; have a3 := l2.lo; have a4 := l2.hi
  have e : headS r s u k = s.1 + loss k s.2 + loss r.th (s.2 - u) := rfl
  have h0 : -1000000000000 ≤ headS r s u k := by omega
  have h1 : headS r s u k ≤ 1000000000000 := by omega
  have d := div_bd (x := headS r s u k) (d := r.n) (M := 1000000000000) (by omega) h0 h1 (by omega)
  have c := clampQ_in (s.2 - headS r s u k / r.n)
  have ec : stepQ r s u k = clampQ (s.2 - headS r s u k / r.n) := rfl
  have d2 := div_bd (x := stepQ r s u k - u) (d := r.a) (M := 2000) (by omega) (by omega) (by omega) (by omega)
  refine ⟨l1, l2, by rw [wrap_i64] <;> omega, by rw [wrap_i64] <;> omega, by rw [wrap_i64] <;> omega, h0, h1, by rw [wrap_i64] <;> omega, by omega, by omega, by rw [wrap_i64] <;> omega, d2.1, d2.2, by rw [wrap_i64] <;> omega⟩
section
variable {X : FuncId → Option XFunc} (hX : SuACode X)
include hX
set_option maxHeartbeats 4000000 in
theorem u78 {r : Ru} {s : Int × Int} {u k : Int} (i : SIn r s u k) (σ : Store) : Run X (.call 78) [r.ch, st s, .int .i64 u, .int .i64 k] σ = some (.ret, [st (stepS r s u k)], σ) := by
  have o := s_out i
  have w0 := o.w0; have w1 := o.w1; have w2 := o.w2; have w3 := o.w3; have w4 := o.w4; have w5 := o.w5
  have hn := i.ok.n; have ha := i.ok.a
  have c0 := o.c0; have c1 := o.c1; have u0 := i.u0; have u1 := i.u1
  have f1 := u119 hX o.l1; have f2 := u119 hX o.l2
  have f3 := u120 hX (n := headS r s u k) (d := r.n) (by omega) (by omega) o.h0 o.h1
  have f4 := u120 hX (n := stepQ r s u k - u) (d := r.a) (by omega) (by omega) (by omega) (by omega)
  refine call4 (v := st (stepS r s u k)) hX.h78 rfl rfl rfl rfl (by decide) (fun tm hl h0 h1 h2 h3 => ?_) rfl σ
  simp only [AVal.strip, stripL, Ru.ch, st] at h0 h1 h2 h3
  replace hl : tm.length = 50 := hl
  have ec : stepQ r s u k = clampQ (s.2 - headS r s u k / r.n) := rfl
  unfold Gives stepS
  unfold headS at w2 w3 f3 ec
  unfold clampQ at ec
  by_cases b1 : s.2 - (s.1 + loss k s.2 + loss r.th (s.2 - u)) / r.n < -1000
  · simp only [b1, if_true] at ec
    simp only [ec] at w4 w5 f4 ⊢
    simp [xf78, hl, h0, h1, h2, h3, w0, w1, w2, w3, w4, w5, f1, f2, f3, f4, st, b1, xext, xmm, Store.empty, Store.new, Store.put, Store.get, look, putL, setR, Store.only, Store.merge, touch, wrote, upTo, isIn, okRec, hits, capsOf, xcaps, stripL, AVal.strip, freeL, AVal.free, fillR, chunks, mkV, List.filter]
    done
  · by_cases b2 : 1000 < s.2 - (s.1 + loss k s.2 + loss r.th (s.2 - u)) / r.n
    · simp only [b1, b2, if_true, if_false] at ec
      simp only [ec] at w4 w5 f4 ⊢
      simp [xf78, hl, h0, h1, h2, h3, w0, w1, w2, w3, w4, w5, f1, f2, f3, f4, st, b1, b2, xext, xmm, Store.empty, Store.new, Store.put, Store.get, look, putL, setR, Store.only, Store.merge, touch, wrote, upTo, isIn, okRec, hits, capsOf, xcaps, stripL, AVal.strip, freeL, AVal.free, fillR, chunks, mkV, List.filter]
      done
    · simp only [b1, b2, if_false] at ec
      simp only [ec] at w4 w5 f4 ⊢
      simp [xf78, hl, h0, h1, h2, h3, w0, w1, w2, w3, w4, w5, f1, f2, f3, f4, st, b1, b2, xext, xmm, Store.empty, Store.new, Store.put, Store.get, look, putL, setR, Store.only, Store.merge, touch, wrote, upTo, isIn, okRec, hits, capsOf, xcaps, stripL, AVal.strip, freeL, AVal.free, fillR, chunks, mkV, List.filter]
      done
end
end Go.Proofs.Ytlknncjnfgnlaaa.Eng

/-
  SURGE: steps of the program and of the reference.
-/
namespace Go.Proofs.Ytlknncjnfgnlaaa.Eng
set_option linter.unusedSimpArgs false
set_option linter.unusedVariables false
theorem wrm : IntKind.i64.wrap (-1000) = -1000 := rfl
theorem wrp : IntKind.i64.wrap 1000 = 1000 := rfl
def stpE (r : Ru) (s : Int × Int) (u k : Int) : Int := if r.e = 0 then (if stE s = 0 then (if ldE u = 0 then frE r k else ldE u) else stE s) else r.e
theorem stpE_in {r : Ru} {s : Int × Int} {u k : Int} (h : stpE r s u k = 0) : SIn r s u k := by
  unfold stpE at h
  split at h
  · rename_i h0
    split at h
    · rename_i h1
      split at h
      · rename_i h2
        have ok := Ru.ok h0
        have o1 := ok.lo; have o2 := ok.hi
        unfold stE at h1; unfold ldE at h2; unfold frE at h
        split at h1 <;> try omega
        rename_i c1
        split at h2 <;> try omega
        rename_i c2
        split at h <;> try omega
        rename_i c3
        simp only [Bool.and_eq_true, win_iff] at c1 c2 c3
        exact ⟨ok, by omega, by omega, by omega, by omega, by omega, by omega, by omega, by omega⟩
      · omega
    · omega
  · omega
section
variable {X : FuncId → Option XFunc} (hX : SuACode X)
include hX
set_option maxHeartbeats 4000000 in
theorem u22 {r : Ru} {s : Int × Int} {u k : Int} (i : SIn r s u k) (σ : Store) : Run X (.call 22) [r.enc, st s, .int .i64 u, .int .i64 k] σ = some (.ret, [st (stepS r s u k)], σ) := by
  have o := s_out i
  have w0 := o.w0; have w1 := o.w1; have w2 := o.w2; have w3 := o.w3; have w4 := o.w4; have w5 := o.w5
  have hn := i.ok.n; have ha := i.ok.a
  have c0 := o.c0; have c1 := o.c1; have u0 := i.u0; have u1 := i.u1
  have f1 := u82 hX o.l1; have f2 := u82 hX o.l2
  have f3 := u83 hX (n := headS r s u k) (d := r.n) (by omega) (by omega) o.h0 o.h1
  have f4 := u83 hX (n := stepQ r s u k - u) (d := r.a) (by omega) (by omega) (by omega) (by omega)
  refine call4 (v := st (stepS r s u k)) hX.h22 rfl rfl rfl rfl (by decide) (fun tm hl h0 h1 h2 h3 => ?_) rfl σ
  simp only [AVal.strip, stripL, Ru.enc, st] at h0 h1 h2 h3
  replace hl : tm.length = 47 := hl
  have ec : stepQ r s u k = clampQ (s.2 - headS r s u k / r.n) := rfl
  unfold Gives stepS
  unfold headS at w2 w3 f3 ec
  unfold clampQ at ec
  by_cases b1 : s.2 - (s.1 + loss k s.2 + loss r.th (s.2 - u)) / r.n < -1000
  · have b2 : s.2 - (s.1 + loss k s.2 + loss r.th (s.2 - u)) / r.n < 1000 := by omega
    have b3 : ¬ -1000 < s.2 - (s.1 + loss k s.2 + loss r.th (s.2 - u)) / r.n := by omega
    simp only [b1, if_true] at ec
    simp only [ec] at w4 w5 f4 ⊢
    simp [xf22, hl, h0, h1, h2, h3, w0, w1, w2, w3, w4, w5, f1, f2, f3, f4, st, b1, b2, b3, xext, xmm, Store.empty, Store.new, Store.put, Store.get, look, putL, setR, Store.only, Store.merge, touch, wrote, upTo, isIn, okRec, hits, capsOf, xcaps, stripL, AVal.strip, freeL, AVal.free, fillR, chunks, mkV, List.filter]
    done
  · by_cases b2 : 1000 < s.2 - (s.1 + loss k s.2 + loss r.th (s.2 - u)) / r.n
    · have b3 : ¬ s.2 - (s.1 + loss k s.2 + loss r.th (s.2 - u)) / r.n < 1000 := by omega
      simp only [b1, b2, if_true, if_false] at ec
      simp only [ec] at w4 w5 f4 ⊢
      simp [xf22, hl, h0, h1, h2, h3, w0, w1, w2, w3, w4, w5, f1, f2, f3, f4, st, b1, b2, b3, xext, xmm, Store.empty, Store.new, Store.put, Store.get, look, putL, setR, Store.only, Store.merge, touch, wrote, upTo, isIn, okRec, hits, capsOf, xcaps, stripL, AVal.strip, freeL, AVal.free, fillR, chunks, mkV, List.filter]
      done
    · simp only [b1, b2, if_false] at ec
      simp only [ec] at w4 w5 f4 ⊢
      by_cases b3 : s.2 - (s.1 + loss k s.2 + loss r.th (s.2 - u)) / r.n < 1000
      · by_cases b4 : -1000 < s.2 - (s.1 + loss k s.2 + loss r.th (s.2 - u)) / r.n
        · simp [xf22, hl, h0, h1, h2, h3, w0, w1, w2, w3, w4, w5, f1, f2, f3, f4, st, b1, b2, b3, b4, xext, xmm, Store.empty, Store.new, Store.put, Store.get, look, putL, setR, Store.only, Store.merge, touch, wrote, upTo, isIn, okRec, hits, capsOf, xcaps, stripL, AVal.strip, freeL, AVal.free, fillR, chunks, mkV, List.filter]
          done
        · have b5 : s.2 - (s.1 + loss k s.2 + loss r.th (s.2 - u)) / r.n = -1000 := by omega
          simp only [b5] at w4 w5 f4 ⊢
          simp [xf22, hl, h0, h1, h2, h3, w0, w1, w2, w3, w4, w5, f1, f2, f3, f4, st, b5, wrm, wrp, xext, xmm, Store.empty, Store.new, Store.put, Store.get, look, putL, setR, Store.only, Store.merge, touch, wrote, upTo, isIn, okRec, hits, capsOf, xcaps, stripL, AVal.strip, freeL, AVal.free, fillR, chunks, mkV, List.filter]
          done
      · have b5 : s.2 - (s.1 + loss k s.2 + loss r.th (s.2 - u)) / r.n = 1000 := by omega
        simp only [b5] at w4 w5 f4 ⊢
        simp [xf22, hl, h0, h1, h2, h3, w0, w1, w2, w3, w4, w5, f1, f2, f3, f4, st, b5, wrm, wrp, xext, xmm, Store.empty, Store.new, Store.put, Store.get, look, putL, setR, Store.only, Store.merge, touch, wrote, upTo, isIn, okRec, hits, capsOf, xcaps, stripL, AVal.strip, freeL, AVal.free, fillR, chunks, mkV, List.filter]
        done
set_option maxHeartbeats 4000000 in
theorem u15 (r : Ru) (s : Int × Int) (u k : Int) (σ : Store) : Run X (.call 15) [r.enc, st s, .agg [.int .i64 u, .int .i64 k]] σ = some (.ret, [.tup [st (if stpE r s u k = 0 then stepS r s u k else (0, 0)), .int .i64 (stpE r s u k)]], σ) := by
  have u2 := fun a b c d tok σ => u74 hX [a, b, c, d] (by simp) tok σ
  simp only [List.map_cons, List.map_nil] at u2
  have u73 := u73 hX r; have u75 := u75 hX s
  have z77 := u77 hX ⟨0, 0, 0, 0, 0⟩ k
  simp only [Ru.ch] at z77
  by_cases c1 : r.e = 0
  · have a77 := u77 hX r k
    simp only [c1, if_true] at u73
    simp only [Ru.enc, st, Ru.ch] at u73 u75 a77
    by_cases c2 : stpE r s u k = 0
    · have a78 := u78 hX (stpE_in c2)
      simp only [Ru.ch, st] at a78
      simp only [c2, if_true]
      have c2' := c2
      unfold stpE at c2'
      by_cases d1 : stE s = 0
      · by_cases d2 : ldE u = 0
        · simp only [c1, d1, d2, if_true] at c2'
          refine call3 (a := r.enc) (b := st s) (v := .tup [st (stepS r s u k), .int .i64 0]) hX.h15 rfl rfl rfl (by decide) (fun tm hl h0 h1 h2 => ?_) rfl σ
          simp only [AVal.strip, stripL, Ru.enc, st] at h0 h1 h2
          replace hl : tm.length = 39 := hl
          unfold Gives
          simp [xf15, hl, h0, h1, h2, u73, u75, a77, a78, u76 hX, u2, c1, d1, d2, c2', firstNZ, st, xresult, xrets, Store.empty, Store.new, Store.put, Store.get, look, putL, setR, Store.only, Store.merge, touch, wrote, upTo, isIn, okRec, hits, capsOf, xcaps, stripL, AVal.strip, freeL, AVal.free, fillR, chunks, mkV, List.filter]
        · simp only [c1, d1, d2, if_true, if_false] at c2'
      · simp only [c1, d1, if_true, if_false] at c2'
    · simp only [c2, if_false]
      have ef : stpE r s u k = firstNZ [0, stE s, ldE u, frE r k] := by
        unfold stpE; simp only [c1, if_true, firstNZ]
        by_cases d1 : stE s = 0 <;> by_cases d2 : ldE u = 0 <;> by_cases d3 : frE r k = 0 <;> simp [d1, d2, d3]
      rw [ef] at c2
      rw [ef]
      refine call3 (a := r.enc) (b := st s) (v := .tup [st (0, 0), .int .i64 _]) hX.h15 rfl rfl rfl (by decide) (fun tm hl h0 h1 h2 => ?_) rfl σ
      simp only [AVal.strip, stripL, Ru.enc, st] at h0 h1 h2
      replace hl : tm.length = 39 := hl
      unfold Gives
      simp [xf15, hl, h0, h1, h2, u73, u75, a77, u76 hX, u2, c1, c2, st, xresult, xrets, Store.empty, Store.new, Store.put, Store.get, look, putL, setR, Store.only, Store.merge, touch, wrote, upTo, isIn, okRec, hits, capsOf, xcaps, stripL, AVal.strip, freeL, AVal.free, fillR, chunks, mkV, List.filter]
  · have ef : stpE r s u k = r.e := by unfold stpE; rw [if_neg c1]
    rw [ef, if_neg c1]
    simp only [c1, if_false] at u73
    simp only [Ru.enc, st, ch0] at u73 u75
    refine call3 (a := r.enc) (b := st s) (v := .tup [st (0, 0), .int .i64 r.e]) hX.h15 rfl rfl rfl (by decide) (fun tm hl h0 h1 h2 => ?_) rfl σ
    simp only [AVal.strip, stripL, Ru.enc, st] at h0 h1 h2
    replace hl : tm.length = 39 := hl
    unfold Gives
    simp [xf15, hl, h0, h1, h2, u73, u75, z77, u76 hX, u2, c1, firstNZ, st, xresult, xrets, Store.empty, Store.new, Store.put, Store.get, look, putL, setR, Store.only, Store.merge, touch, wrote, upTo, isIn, okRec, hits, capsOf, xcaps, stripL, AVal.strip, freeL, AVal.free, fillR, chunks, mkV, List.filter]
end
end Go.Proofs.Ytlknncjnfgnlaaa.Eng

/-
  SURGE: a step never crosses another one.
-/
namespace Go.Proofs.Ytlknncjnfgnlaaa.Eng
set_option linter.unusedSimpArgs false
set_option linter.unusedVariables false
theorem ss_diff {p q M : Int} (h0 : -M ≤ p) (h1 : p ≤ q) (h2 : q ≤ M) : p * sq p ≤ q * sq q ∧ q * sq q - p * sq p ≤ 2 * M * (q - p) := by
  have hM : 0 ≤ M := by omega
  have e2 : 2 * M * (q - p) = 2 * (M * (q - p)) := by rw [Int.mul_assoc]
  rw [e2]
  by_cases hp : 0 ≤ p
  · have sp : sq p = p := by unfold sq; split <;> omega
    have sq' : sq q = q := by unfold sq; split <;> omega
    rw [sp, sq']
    have e : q * q - p * p = (q + p) * (q - p) := by rw [Int.add_mul, Int.mul_sub, Int.mul_sub, Int.mul_comm p q]; omega
    have a : 0 ≤ (q + p) * (q - p) := Int.mul_nonneg (by omega) (by omega)
    have b : (q + p) * (q - p) ≤ (2 * M) * (q - p) := Int.mul_le_mul_of_nonneg_right (by omega) (by omega)
    rw [Int.mul_assoc] at b
    omega
  · by_cases hq : 0 ≤ q
    · have sp : sq p = -p := by unfold sq; split <;> omega
      have sq' : sq q = q := by unfold sq; split <;> omega
      rw [sp, sq', Int.mul_neg]
      have a : 0 ≤ q * q := Int.mul_nonneg hq hq
      have a' : 0 ≤ (-p) * (-p) := Int.mul_nonneg (by omega) (by omega)
      have b : q * q ≤ M * q := Int.mul_le_mul_of_nonneg_right (by omega) hq
      have b' : (-p) * (-p) ≤ M * (-p) := Int.mul_le_mul_of_nonneg_right (by omega) (by omega)
      rw [Int.neg_mul_neg] at a' b'
      rw [Int.mul_neg] at b'
      rw [Int.mul_sub]
      have c : 0 ≤ M * q := Int.mul_nonneg hM hq
      have c' : 0 ≤ M * (-p) := Int.mul_nonneg hM (by omega)
      rw [Int.mul_neg] at c'
      omega
    · have sp : sq p = -p := by unfold sq; split <;> omega
      have sq' : sq q = -q := by unfold sq; split <;> omega
      rw [sp, sq', Int.mul_neg, Int.mul_neg]
      have e : p * p - q * q = (-(q + p)) * (q - p) := by rw [Int.neg_mul, Int.add_mul, Int.mul_sub, Int.mul_sub, Int.mul_comm p q]; omega
      have a : 0 ≤ (-(q + p)) * (q - p) := Int.mul_nonneg (by omega) (by omega)
      have b : (-(q + p)) * (q - p) ≤ (2 * M) * (q - p) := Int.mul_le_mul_of_nonneg_right (by omega) (by omega)
      rw [Int.mul_assoc] at b
      omega
theorem tdiv_diff {x y : Int} (h : x ≤ y) : x.tdiv 1000 ≤ y.tdiv 1000 ∧ 1000 * (y.tdiv 1000 - x.tdiv 1000) ≤ y - x + 999 := by
  have hs : Int.sign 1000 = 1 := rfl
  rw [Int.tdiv_eq_ediv, Int.tdiv_eq_ediv, hs]
  split <;> split <;> omega
theorem loss_diff {k p q M : Int} (hk : 0 ≤ k) (h0 : -M ≤ p) (h1 : p ≤ q) (h2 : q ≤ M) : loss k p ≤ loss k q ∧ 1000 * (loss k q - loss k p) ≤ k * (2 * M * (q - p)) + 999 := by
  obtain ⟨a, b⟩ := ss_diff h0 h1 h2
  have a' := Int.mul_le_mul_of_nonneg_left a hk
  have b' := Int.mul_le_mul_of_nonneg_left b hk
  unfold loss
  rw [Int.mul_assoc k p, Int.mul_assoc k q]
  rw [Int.mul_sub] at b'
  obtain ⟨c, d⟩ := tdiv_diff a'
  exact ⟨c, by omega⟩
/-- The head grows with the flow, but not by too much. -/
theorem head_q {r : Ru} (ok : r.Ok) {z p q u k : Int} (k0 : 0 ≤ k) (k1 : k ≤ r.hi) (u0 : 0 ≤ u) (u1 : u ≤ 1000) (p0 : -1000 ≤ p) (hpq : p ≤ q) (q1 : q ≤ 1000) :
    headS r (z, p) u k ≤ headS r (z, q) u k ∧ headS r (z, q) u k ≤ headS r (z, p) u k + r.n * (q - p) := by
  have ht := ok.th; have hc := ok.cl
  obtain ⟨a, b⟩ := loss_diff (k := k) (M := 1000) k0 (by omega) hpq q1
  obtain ⟨a', b'⟩ := loss_diff (k := r.th) (p := p - u) (q := q - u) (M := 2000) ht.1 (by omega) (by omega) (by omega)
  unfold headS
  refine ⟨by simp only; omega, ?_⟩
  simp only
  by_cases e : p = q
  · subst e; rw [Int.sub_self, Int.mul_zero]; omega
  · rw [show q - u - (p - u) = q - p by omega] at b'
    have h1 : 1 ≤ q - p := by omega
    generalize q - p = d at *
    rw [Int.mul_left_comm] at b b'
    have c1 : k * d ≤ r.hi * d := Int.mul_le_mul_of_nonneg_right k1 (by omega)
    have c3 : (2001 * r.hi + 4001 * r.th + 2000) * d ≤ 1000 * r.n * d := Int.mul_le_mul_of_nonneg_right hc (by omega)
    have c4 : 0 ≤ r.hi * d := Int.mul_nonneg ok.hi.1 (by omega)
    have c5 : 0 ≤ r.th * d := Int.mul_nonneg ht.1 (by omega)
    have e3 : (2001 * r.hi + 4001 * r.th + 2000) * d = 2001 * (r.hi * d) + 4001 * (r.th * d) + 2000 * d := by rw [Int.add_mul, Int.add_mul, Int.mul_assoc, Int.mul_assoc]
    rw [e3, Int.mul_assoc] at c3
    omega
theorem ediv_add_le {x d n : Int} (hn : 1 ≤ n) (hd : 0 ≤ d) : (x + d) / n ≤ x / n + d := by
  have h1 : d ≤ d * n := by
    have := Int.mul_le_mul_of_nonneg_left hn hd
    omega
  have h2 : (x + d) / n ≤ (x + d * n) / n := Int.ediv_le_ediv (by omega) (by omega)
  rw [Int.add_mul_ediv_right _ _ (by omega)] at h2
  exact h2
theorem clamp_mono {f g : Int} (h : f ≤ g) : clampQ f ≤ clampQ g := by unfold clampQ; split <;> split <;> (try split) <;> (try split) <;> omega
theorem clamp_lip {f g d : Int} (hd : 0 ≤ d) (h : f ≤ g + d) : clampQ f ≤ clampQ g + d := by unfold clampQ; split <;> split <;> (try split) <;> (try split) <;> omega
theorem cross_q {r : Ru} (ok : r.Ok) {z p q u k : Int} (k0 : 0 ≤ k) (k1 : k ≤ r.hi) (u0 : 0 ≤ u) (u1 : u ≤ 1000) (p0 : -1000 ≤ p) (hpq : p ≤ q) (q1 : q ≤ 1000) :
    stepQ r (z, p) u k ≤ stepQ r (z, q) u k ∧ (stepS r (z, p) u k).1 ≤ (stepS r (z, q) u k).1 := by
  have hn := ok.n; have ha := ok.a
  obtain ⟨h1, h2⟩ := head_q (z := z) ok k0 k1 u0 u1 p0 hpq q1
  have h3 : headS r (z, q) u k / r.n ≤ (headS r (z, p) u k + (q - p) * r.n) / r.n := Int.ediv_le_ediv (by omega) (by rw [Int.mul_comm (q - p)]; exact h2)
  rw [Int.add_mul_ediv_right _ _ (by omega)] at h3
  have h4 : stepQ r (z, p) u k ≤ stepQ r (z, q) u k := by
    unfold stepQ
    exact clamp_mono (by simp only; omega)
  refine ⟨h4, ?_⟩
  unfold stepS
  simp only
  have := Int.ediv_le_ediv (a := stepQ r (z, p) u k - u) (b := stepQ r (z, q) u k - u) (c := r.a) (by omega) (by omega)
  omega
theorem cross_z {r : Ru} (ok : r.Ok) {y z q u k : Int} (h : y ≤ z) : stepQ r (z, q) u k ≤ stepQ r (y, q) u k ∧ (stepS r (y, q) u k).1 ≤ (stepS r (z, q) u k).1 := by
  have hn := ok.n; have ha := ok.a
  have e : headS r (z, q) u k = headS r (y, q) u k + (z - y) := by unfold headS; simp only; omega
  have h1 : headS r (y, q) u k / r.n ≤ headS r (z, q) u k / r.n := Int.ediv_le_ediv (by omega) (by omega)
  have h2 := ediv_add_le (x := headS r (y, q) u k) (d := z - y) hn.1 (by omega)
  rw [← e] at h2
  have h3 : stepQ r (z, q) u k ≤ stepQ r (y, q) u k := by
    unfold stepQ
    exact clamp_mono (by simp only; omega)
  have h4 : stepQ r (y, q) u k ≤ stepQ r (z, q) u k + (z - y) := by
    unfold stepQ
    exact clamp_lip (by omega) (by simp only; omega)
  refine ⟨h3, ?_⟩
  unfold stepS
  simp only
  have h5 := ediv_add_le (x := stepQ r (z, q) u k - u) (d := z - y) ha.1 (by omega)
  have h6 : (stepQ r (y, q) u k - u) / r.a ≤ (stepQ r (z, q) u k - u + (z - y)) / r.a := Int.ediv_le_ediv (by omega) (by omega)
  omega
end Go.Proofs.Ytlknncjnfgnlaaa.Eng

/-
  SURGE: boxes.
-/
namespace Go.Proofs.Ytlknncjnfgnlaaa.Eng
set_option linter.unusedSimpArgs false
set_option linter.unusedVariables false
structure Bx where
  a : Int
  b : Int
  c : Int
  d : Int
def Bx.enc (b : Bx) : AVal := .agg [.int .i64 b.a, .int .i64 b.b, .int .i64 b.c, .int .i64 b.d]
def rgE (lo hi M : Int) : Int := if win lo (-M) M && win hi (-M) M then (if lo ≤ hi then 0 else 9) else 2
def bxE (b : Bx) : Int := if rgE b.a b.b 100000 = 0 then rgE b.c b.d 1000 else rgE b.a b.b 100000
def imin (x y : Int) : Int := if y < x then y else x
def imax (x y : Int) : Int := if x < y then y else x
def boxS (r : Ru) (b : Bx) (u : Int) : Bx := ⟨imin (stepS r (b.a, b.c) u r.lo).1 (stepS r (b.a, b.c) u r.hi).1, imax (stepS r (b.b, b.d) u r.lo).1 (stepS r (b.b, b.d) u r.hi).1, imin (stepS r (b.b, b.c) u r.lo).2 (stepS r (b.b, b.c) u r.hi).2, imax (stepS r (b.a, b.d) u r.lo).2 (stepS r (b.a, b.d) u r.hi).2⟩
structure BIn (r : Ru) (b : Bx) (u : Int) : Prop where
  ok : r.Ok
  a0 : -1000000000 ≤ b.a
  a1 : b.a ≤ 1000000000
  b0 : -1000000000 ≤ b.b
  b1 : b.b ≤ 1000000000
  c0 : -1000 ≤ b.c
  c1 : b.c ≤ 1000
  d0 : -1000 ≤ b.d
  d1 : b.d ≤ 1000
  u0 : 0 ≤ u
  u1 : u ≤ 1000
def bsE (r : Ru) (b : Bx) (u : Int) : Int := if r.e = 0 then (if bxE b = 0 then ldE u else bxE b) else r.e
structure BxOk (b : Bx) : Prop where
  a0 : -100000 ≤ b.a
  a1 : b.a ≤ 100000
  b0 : -100000 ≤ b.b
  b1 : b.b ≤ 100000
  c0 : -1000 ≤ b.c
  c1 : b.c ≤ 1000
  d0 : -1000 ≤ b.d
  d1 : b.d ≤ 1000
  ab : b.a ≤ b.b
  cd : b.c ≤ b.d
theorem bx_ok {b : Bx} (h : bxE b = 0) : BxOk b := by
  unfold bxE at h
  split at h
  · rename_i h1
    unfold rgE at h h1
    split at h <;> try omega
    rename_i c1
    split at h1 <;> try omega
    rename_i c2
    simp only [Bool.and_eq_true, win_iff] at c1 c2
    split at h <;> try omega
    split at h1 <;> try omega
    constructor <;> omega
  · omega
theorem bsE_in {r : Ru} {b : Bx} {u : Int} (h : bsE r b u = 0) : BIn r b u := by
  unfold bsE at h
  split at h
  · rename_i h0
    split at h
    · rename_i h1
      have k := bx_ok h1
      unfold ldE at h
      split at h <;> try omega
      rename_i c2
      rw [win_iff] at c2
      have a0 := k.a0; have a1 := k.a1; have b0 := k.b0; have b1 := k.b1
      exact ⟨Ru.ok h0, by omega, by omega, by omega, by omega, k.c0, k.c1, k.d0, k.d1, c2.1, c2.2⟩
    · omega
  · omega
theorem corner {r : Ru} {b : Bx} {u : Int} (i : BIn r b u) {z q k : Int} (hz : z = b.a ∨ z = b.b) (hq : q = b.c ∨ q = b.d) (hk : k = r.lo ∨ k = r.hi) : SIn r (z, q) u k := by
  have lo := i.ok.lo; have hi := i.ok.hi
  have a0 := i.a0; have a1 := i.a1; have b0 := i.b0; have b1 := i.b1; have c0 := i.c0; have c1 := i.c1; have d0 := i.d0; have d1 := i.d1
  exact ⟨i.ok, by simp only; omega, by simp only; omega, by simp only; omega, by simp only; omega, i.u0, i.u1, by omega, by omega⟩
section
variable {X : FuncId → Option XFunc} (hX : SuBCode X)
include hX
theorem u36 (b : Bx) (s : Int × Int) (σ : Store) : Run X (.call 36) [b.enc, st s] σ = some (.ret, [.bool (win s.1 b.a b.b && win s.2 b.c b.d)], σ) := by
  have hA := hX.suA
  refine call2 (a := b.enc) (v := .bool (win s.1 b.a b.b && win s.2 b.c b.d)) hX.h36 rfl rfl (by decide) (fun tm hl h0 h1 => ?_) rfl σ
  simp only [AVal.strip, stripL, Bx.enc, st] at h0 h1
  replace hl : tm.length = 25 := hl
  unfold Gives
  cases c : win s.1 b.a b.b <;> simp [xf36, hl, h0, h1, u37 hA, c, Store.empty, Store.new, Store.put, Store.get, look, putL, setR, Store.only, Store.merge, touch, wrote, upTo, isIn, okRec, hits, capsOf, xcaps, stripL, AVal.strip, freeL, AVal.free, fillR, chunks, mkV, List.filter]
theorem u91 (lo hi : Int) {M : Int} (m0 : 0 ≤ M) (m1 : M ≤ 1000000) (σ : Store) : Run X (.call 91) [.agg [.int .i64 lo, .int .i64 hi], .int .i64 M] σ = some (.ret, [.int .i64 (rgE lo hi M)], σ) := by
  have hA := hX.suA
  have w : IntKind.i64.wrap (-M) = -M := by rw [wrap_i64] <;> omega
  refine call2 (v := .int .i64 (rgE lo hi M)) hX.h91 rfl rfl (by decide) (fun tm hl h0 h1 => ?_) rfl σ
  simp only [AVal.strip, stripL] at h0 h1
  replace hl : tm.length = 26 := hl
  unfold Gives
  cases c1 : win lo (-M) M
  · simp [xf91, hl, h0, h1, u37 hA, w, c1, rgE, Store.empty, Store.new, Store.put, Store.get, look, putL, setR, Store.only, Store.merge, touch, wrote, upTo, isIn, okRec, hits, capsOf, xcaps, stripL, AVal.strip, freeL, AVal.free, fillR, chunks, mkV, List.filter]
  cases c2 : win hi (-M) M
  · simp [xf91, hl, h0, h1, u37 hA, w, c1, c2, rgE, Store.empty, Store.new, Store.put, Store.get, look, putL, setR, Store.only, Store.merge, touch, wrote, upTo, isIn, okRec, hits, capsOf, xcaps, stripL, AVal.strip, freeL, AVal.free, fillR, chunks, mkV, List.filter]
  by_cases c3 : lo ≤ hi
  · have : ¬ hi < lo := by omega
    simp [xf91, hl, h0, h1, u37 hA, w, c1, c2, c3, this, rgE, Store.empty, Store.new, Store.put, Store.get, look, putL, setR, Store.only, Store.merge, touch, wrote, upTo, isIn, okRec, hits, capsOf, xcaps, stripL, AVal.strip, freeL, AVal.free, fillR, chunks, mkV, List.filter]
  · have : hi < lo := by omega
    simp [xf91, hl, h0, h1, u37 hA, w, c1, c2, c3, this, rgE, Store.empty, Store.new, Store.put, Store.get, look, putL, setR, Store.only, Store.merge, touch, wrote, upTo, isIn, okRec, hits, capsOf, xcaps, stripL, AVal.strip, freeL, AVal.free, fillR, chunks, mkV, List.filter]
theorem u31 (b : Bx) (σ : Store) : Run X (.call 31) [b.enc] σ = some (.ret, [.int .i64 (bxE b)], σ) := by
  have h1' := u91 hX b.a b.b (M := 100000) (by omega) (by omega)
  have h2' := u91 hX b.c b.d (M := 1000) (by omega) (by omega)
  refine call1 (a := b.enc) (v := .int .i64 (bxE b)) hX.h31 rfl (by decide) (fun tm hl h0 => ?_) rfl σ
  simp only [AVal.strip, stripL, Bx.enc] at h0
  replace hl : tm.length = 13 := hl
  unfold Gives
  by_cases c1 : rgE b.a b.b 100000 = 0 <;> simp [xf31, hl, h0, h1', h2', c1, bxE, Store.empty, Store.new, Store.put, Store.get, look, putL, setR, Store.only, Store.merge, touch, wrote, upTo, isIn, okRec, hits, capsOf, xcaps, stripL, AVal.strip, freeL, AVal.free, fillR, chunks, mkV, List.filter]
omit hX in
theorem rg_eq (lo hi M : Int) : firstNZ [if win lo (-M) M then 0 else 2, if win hi (-M) M then 0 else 2, if decide (lo ≤ hi) then 0 else 9] = rgE lo hi M := by
  unfold rgE
  cases win lo (-M) M <;> cases win hi (-M) M <;> by_cases c : lo ≤ hi <;> simp [firstNZ, c]
theorem u127a (lo hi : Int) (σ : Store) : Run X (.call 127) [.agg [.int .i64 lo, .int .i64 hi], .fn 116 [] []] σ = some (.ret, [.int .i64 (rgE lo hi 100000)], σ) := by
  have hA := hX.suA
  have u3 := fun a b c tok σ => u74 hA [a, b, c] (by simp) tok σ
  simp only [List.map_cons, List.map_nil] at u3
  refine call2 (v := .int .i64 (rgE lo hi 100000)) hX.h127 rfl rfl (by decide) (fun tm hl h0 h1 => ?_) rfl σ
  simp only [AVal.strip, stripL] at h0 h1
  replace hl : tm.length = 21 := hl
  rw [← rg_eq]
  unfold Gives
  simp [xf127, hl, h0, h1, u116 hA, u81 hA, u3, Store.empty, Store.new, Store.put, Store.get, look, putL, setR, Store.only, Store.merge, touch, wrote, upTo, isIn, okRec, hits, capsOf, xcaps, stripL, AVal.strip, freeL, AVal.free, fillR, chunks, mkV, List.filter]
theorem u127b (lo hi : Int) (σ : Store) : Run X (.call 127) [.agg [.int .i64 lo, .int .i64 hi], .fn 117 [] []] σ = some (.ret, [.int .i64 (rgE lo hi 1000)], σ) := by
  have hA := hX.suA
  have u3 := fun a b c tok σ => u74 hA [a, b, c] (by simp) tok σ
  simp only [List.map_cons, List.map_nil] at u3
  refine call2 (v := .int .i64 (rgE lo hi 1000)) hX.h127 rfl rfl (by decide) (fun tm hl h0 h1 => ?_) rfl σ
  simp only [AVal.strip, stripL] at h0 h1
  replace hl : tm.length = 21 := hl
  rw [← rg_eq]
  unfold Gives
  simp [xf127, hl, h0, h1, u117 hA, u81 hA, u3, Store.empty, Store.new, Store.put, Store.get, look, putL, setR, Store.only, Store.merge, touch, wrote, upTo, isIn, okRec, hits, capsOf, xcaps, stripL, AVal.strip, freeL, AVal.free, fillR, chunks, mkV, List.filter]
theorem u87 (b : Bx) (σ : Store) : Run X (.call 87) [b.enc] σ = some (.ret, [.int .i64 (bxE b)], σ) := by
  have hA := hX.suA
  have u2 := fun a b tok σ => u74 hA [a, b] (by simp) tok σ
  simp only [List.map_cons, List.map_nil] at u2
  refine call1 (a := b.enc) (v := .int .i64 (bxE b)) hX.h87 rfl (by decide) (fun tm hl h0 => ?_) rfl σ
  simp only [AVal.strip, stripL, Bx.enc] at h0
  replace hl : tm.length = 11 := hl
  unfold Gives
  by_cases c1 : rgE b.a b.b 100000 = 0 <;> by_cases c2 : rgE b.c b.d 1000 = 0 <;> simp [xf87, hl, h0, u127a hX, u127b hX, u2, c1, c2, bxE, firstNZ, Store.empty, Store.new, Store.put, Store.get, look, putL, setR, Store.only, Store.merge, touch, wrote, upTo, isIn, okRec, hits, capsOf, xcaps, stripL, AVal.strip, freeL, AVal.free, fillR, chunks, mkV, List.filter]
theorem u32 (r : Ru) (b : Bx) (σ : Store) : Run X (.call 32) [r.enc, b.enc] σ = some (.ret, [.int .i64 (if r.e = 0 then bxE b else r.e)], σ) := by
  have hA := hX.suA
  have u2 := fun a b tok σ => u74 hA [a, b] (by simp) tok σ
  simp only [List.map_cons, List.map_nil] at u2
  have u17 := u17 hA r; have u87 := u87 hX b
  simp only [Ru.enc, Bx.enc] at u17 u87
  refine call2 (a := r.enc) (b := b.enc) (v := .int .i64 (if r.e = 0 then bxE b else r.e)) hX.h32 rfl rfl (by decide) (fun tm hl h0 h1 => ?_) rfl σ
  simp only [AVal.strip, stripL, Ru.enc, Bx.enc] at h0 h1
  replace hl : tm.length = 11 := hl
  unfold Gives
  by_cases c1 : r.e = 0 <;> by_cases c2 : bxE b = 0 <;> simp [xf32, hl, h0, h1, u17, u87, u2, c1, c2, firstNZ, Store.empty, Store.new, Store.put, Store.get, look, putL, setR, Store.only, Store.merge, touch, wrote, upTo, isIn, okRec, hits, capsOf, xcaps, stripL, AVal.strip, freeL, AVal.free, fillR, chunks, mkV, List.filter]
set_option maxHeartbeats 4000000 in
theorem u130 {r : Ru} {z q u : Int} (i1 : SIn r (z, q) u r.lo) (i2 : SIn r (z, q) u r.hi) (σ : Store) : Run X (.call 130) [r.ch, .int .i64 z, .int .i64 q, .int .i64 u] σ = some (.ret, [.agg [.int .i64 (stepS r (z, q) u r.lo).1, .int .i64 (stepS r (z, q) u r.lo).2, .int .i64 (stepS r (z, q) u r.hi).1, .int .i64 (stepS r (z, q) u r.hi).2]], σ) := by
  have hA := hX.suA
  have f1 := u78 hA i1; have f2 := u78 hA i2
  simp only [Ru.ch, st] at f1 f2
  refine call4 (a := r.ch) (v := .agg [.int .i64 (stepS r (z, q) u r.lo).1, .int .i64 (stepS r (z, q) u r.lo).2, .int .i64 (stepS r (z, q) u r.hi).1, .int .i64 (stepS r (z, q) u r.hi).2]) hX.h130 rfl rfl rfl rfl (by decide) (fun tm hl h0 h1 h2 h3 => ?_) rfl σ
  simp only [AVal.strip, stripL, Ru.ch] at h0 h1 h2 h3
  replace hl : tm.length = 29 := hl
  unfold Gives
  simp [xf130, xf130l0, Run_loop, hl, h0, h1, h2, h3, f1, f2, wr1, wr2, ix1, Store.empty, Store.new, Store.put, Store.get, look, putL, setR, Store.only, Store.merge, touch, wrote, upTo, isIn, okRec, hits, capsOf, xcaps, stripL, AVal.strip, freeL, AVal.free, fillR, chunks, mkV, List.filter]
set_option maxHeartbeats 4000000 in
theorem u90 {r : Ru} {b : Bx} {u : Int} (i : BIn r b u) (σ : Store) : Run X (.call 90) [r.ch, b.enc, .int .i64 u] σ = some (.ret, [(boxS r b u).enc], σ) := by
  have f1 := u130 hX (corner i (.inl rfl) (.inl rfl) (.inl rfl)) (corner i (.inl rfl) (.inl rfl) (.inr rfl))
  have f2 := u130 hX (corner i (.inr rfl) (.inr rfl) (.inl rfl)) (corner i (.inr rfl) (.inr rfl) (.inr rfl))
  have f3 := u130 hX (corner i (.inr rfl) (.inl rfl) (.inl rfl)) (corner i (.inr rfl) (.inl rfl) (.inr rfl))
  have f4 := u130 hX (corner i (.inl rfl) (.inr rfl) (.inl rfl)) (corner i (.inl rfl) (.inr rfl) (.inr rfl))
  simp only [Ru.ch] at f1 f2 f3 f4
  refine call3 (a := r.ch) (b := b.enc) (v := (boxS r b u).enc) hX.h90 rfl rfl rfl (by decide) (fun tm hl h0 h1 h2 => ?_) rfl σ
  simp only [AVal.strip, stripL, Ru.ch, Bx.enc] at h0 h1 h2
  replace hl : tm.length = 78 := hl
  unfold Gives
  simp [xf90, hl, h0, h1, h2, f1, f2, f3, f4, ix1, xext, xmm, boxS, imin, imax, Bx.enc, Store.empty, Store.new, Store.put, Store.get, look, putL, setR, Store.only, Store.merge, touch, wrote, upTo, isIn, okRec, hits, capsOf, xcaps, stripL, AVal.strip, freeL, AVal.free, fillR, chunks, mkV, List.filter]
set_option maxHeartbeats 8000000 in
theorem u33 {r : Ru} {b : Bx} {u : Int} (i : BIn r b u) (σ : Store) : Run X (.call 33) [r.enc, b.enc, .int .i64 u] σ = some (.ret, [(boxS r b u).enc], σ) := by
  have hA := hX.suA
  have f1 := u22 hA (corner i (.inl rfl) (.inl rfl) (.inl rfl)); have g1 := u22 hA (corner i (.inl rfl) (.inl rfl) (.inr rfl))
  have f2 := u22 hA (corner i (.inr rfl) (.inr rfl) (.inl rfl)); have g2 := u22 hA (corner i (.inr rfl) (.inr rfl) (.inr rfl))
  have f3 := u22 hA (corner i (.inr rfl) (.inl rfl) (.inl rfl)); have g3 := u22 hA (corner i (.inr rfl) (.inl rfl) (.inr rfl))
  have f4 := u22 hA (corner i (.inl rfl) (.inr rfl) (.inl rfl)); have g4 := u22 hA (corner i (.inl rfl) (.inr rfl) (.inr rfl))
  simp only [Ru.enc, st] at f1 f2 f3 f4 g1 g2 g3 g4
  refine call3 (a := r.enc) (b := b.enc) (v := (boxS r b u).enc) hX.h33 rfl rfl rfl (by decide) (fun tm hl h0 h1 h2 => ?_) rfl σ
  simp only [AVal.strip, stripL, Ru.enc, Bx.enc] at h0 h1 h2
  replace hl : tm.length = 119 := hl
  unfold Gives
  simp [xf33, xf33l0, Run_loop, hl, h0, h1, h2, f1, f2, f3, f4, g1, g2, g3, g4, wr1, wr2, ix1, xext, xmm, boxS, imin, imax, Bx.enc, Store.empty, Store.new, Store.put, Store.get, look, putL, setR, Store.only, Store.merge, touch, wrote, upTo, isIn, okRec, hits, capsOf, xcaps, stripL, AVal.strip, freeL, AVal.free, fillR, chunks, mkV, List.filter]
set_option maxHeartbeats 4000000 in
theorem u27 (r : Ru) (b : Bx) (u : Int) (σ : Store) : Run X (.call 27) [r.enc, b.enc, .int .i64 u] σ = some (.ret, [.tup [if bsE r b u = 0 then (boxS r b u).enc else (⟨0, 0, 0, 0⟩ : Bx).enc, .int .i64 (bsE r b u)]], σ) := by
  have hA := hX.suA
  have u3 := fun a b c tok σ => u74 hA [a, b, c] (by simp) tok σ
  simp only [List.map_cons, List.map_nil] at u3
  have u73 := u73 hA r; have u87 := u87 hX b; have u76 := u76 hA u
  have ef : bsE r b u = firstNZ [r.e, bxE b, ldE u] := by
    unfold bsE
    by_cases d1 : r.e = 0 <;> by_cases d2 : bxE b = 0 <;> by_cases d3 : ldE u = 0 <;> simp [d1, d2, d3, firstNZ]
  by_cases c : bsE r b u = 0
  · have u90 := u90 hX (bsE_in c)
    rw [if_pos c]
    have c1 : r.e = 0 := by unfold bsE at c; split at c <;> assumption
    rw [if_pos c1] at u73
    simp only [Ru.enc, Ru.ch, Bx.enc] at u73 u87 u90
    rw [c]
    rw [ef] at c
    refine call3 (a := r.enc) (b := b.enc) (v := .tup [(boxS r b u).enc, .int .i64 0]) hX.h27 rfl rfl rfl (by decide) (fun tm hl h0 h1 h2 => ?_) rfl σ
    simp only [AVal.strip, stripL, Ru.enc, Bx.enc] at h0 h1 h2
    replace hl : tm.length = 31 := hl
    unfold Gives
    simp [xf27, hl, h0, h1, h2, u73, u87, u76, u90, u3, c, Bx.enc, xresult, xrets, Store.empty, Store.new, Store.put, Store.get, look, putL, setR, Store.only, Store.merge, touch, wrote, upTo, isIn, okRec, hits, capsOf, xcaps, stripL, AVal.strip, freeL, AVal.free, fillR, chunks, mkV, List.filter]
  · rw [if_neg c, ef]
    rw [ef] at c
    by_cases c1 : r.e = 0
    · rw [if_pos c1] at u73
      simp only [Ru.enc, Ru.ch, Bx.enc] at u73 u87
      refine call3 (a := r.enc) (b := b.enc) (v := .tup [(⟨0, 0, 0, 0⟩ : Bx).enc, .int .i64 (firstNZ [r.e, bxE b, ldE u])]) hX.h27 rfl rfl rfl (by decide) (fun tm hl h0 h1 h2 => ?_) rfl σ
      simp only [AVal.strip, stripL, Ru.enc, Bx.enc] at h0 h1 h2
      replace hl : tm.length = 31 := hl
      unfold Gives
      simp [xf27, hl, h0, h1, h2, u73, u87, u76, u3, c, Bx.enc, xresult, xrets, Store.empty, Store.new, Store.put, Store.get, look, putL, setR, Store.only, Store.merge, touch, wrote, upTo, isIn, okRec, hits, capsOf, xcaps, stripL, AVal.strip, freeL, AVal.free, fillR, chunks, mkV, List.filter]
    · rw [if_neg c1] at u73
      simp only [Ru.enc, ch0, Bx.enc] at u73 u87
      refine call3 (a := r.enc) (b := b.enc) (v := .tup [(⟨0, 0, 0, 0⟩ : Bx).enc, .int .i64 (firstNZ [r.e, bxE b, ldE u])]) hX.h27 rfl rfl rfl (by decide) (fun tm hl h0 h1 h2 => ?_) rfl σ
      simp only [AVal.strip, stripL, Ru.enc, Bx.enc] at h0 h1 h2
      replace hl : tm.length = 31 := hl
      unfold Gives
      simp [xf27, hl, h0, h1, h2, u73, u87, u76, u3, c, Bx.enc, xresult, xrets, Store.empty, Store.new, Store.put, Store.get, look, putL, setR, Store.only, Store.merge, touch, wrote, upTo, isIn, okRec, hits, capsOf, xcaps, stripL, AVal.strip, freeL, AVal.free, fillR, chunks, mkV, List.filter]
end
end Go.Proofs.Ytlknncjnfgnlaaa.Eng

/-
  SURGE: boxes enclose.
-/
namespace Go.Proofs.Ytlknncjnfgnlaaa.Eng
set_option linter.unusedSimpArgs false
set_option linter.unusedVariables false
/-- A state lies in a box. -/
def InB (b : Bx) (s : Int × Int) : Prop := b.a ≤ s.1 ∧ s.1 ≤ b.b ∧ b.c ≤ s.2 ∧ s.2 ≤ b.d
/-- A box lies in a box. -/
def SubB (d c : Bx) : Prop := c.a ≤ d.a ∧ d.b ≤ c.b ∧ c.c ≤ d.c ∧ d.d ≤ c.d
theorem loss_k {k k' q : Int} (h : k ≤ k') : (0 ≤ q → loss k q ≤ loss k' q) ∧ (q ≤ 0 → loss k' q ≤ loss k q) := by
  have hs : 0 ≤ sq q := by unfold sq; split <;> omega
  constructor
  · intro hq
    have h1 : k * (q * sq q) ≤ k' * (q * sq q) := Int.mul_le_mul_of_nonneg_right h (Int.mul_nonneg hq hs)
    unfold loss
    rw [Int.mul_assoc, Int.mul_assoc]
    exact (tdiv_diff h1).1
  · intro hq
    have h0 : 0 ≤ -(q * sq q) := by rw [← Int.neg_mul]; exact Int.mul_nonneg (by omega) hs
    have h1 : k * -(q * sq q) ≤ k' * -(q * sq q) := Int.mul_le_mul_of_nonneg_right h h0
    rw [Int.mul_neg, Int.mul_neg] at h1
    unfold loss
    rw [Int.mul_assoc, Int.mul_assoc]
    exact (tdiv_diff (by omega)).1
theorem step_head {r : Ru} (ok : r.Ok) {s : Int × Int} {u k k' : Int} (h : loss k s.2 ≤ loss k' s.2) : stepQ r s u k' ≤ stepQ r s u k ∧ (stepS r s u k').1 ≤ (stepS r s u k).1 := by
  have hn := ok.n; have ha := ok.a
  have h1 : headS r s u k ≤ headS r s u k' := by unfold headS; omega
  have h2 : headS r s u k / r.n ≤ headS r s u k' / r.n := Int.ediv_le_ediv (by omega) h1
  have h3 : stepQ r s u k' ≤ stepQ r s u k := by unfold stepQ; exact clamp_mono (by omega)
  refine ⟨h3, ?_⟩
  unfold stepS
  simp only
  have := Int.ediv_le_ediv (a := stepQ r s u k' - u) (b := stepQ r s u k - u) (c := r.a) (by omega) (by omega)
  omega
/-- A friction between both ends gives a state between theirs. -/
theorem step_k {r : Ru} (ok : r.Ok) {s : Int × Int} {u k : Int} (k0 : r.lo ≤ k) (k1 : k ≤ r.hi) :
    (imin (stepS r s u r.lo).1 (stepS r s u r.hi).1 ≤ (stepS r s u k).1 ∧ (stepS r s u k).1 ≤ imax (stepS r s u r.lo).1 (stepS r s u r.hi).1) ∧
    (imin (stepS r s u r.lo).2 (stepS r s u r.hi).2 ≤ (stepS r s u k).2 ∧ (stepS r s u k).2 ≤ imax (stepS r s u r.lo).2 (stepS r s u r.hi).2) := by
  have e : ∀ k, (stepS r s u k).2 = stepQ r s u k := fun _ => rfl
  rw [e, e, e]
  rcases Int.le_total 0 s.2 with hq | hq
  · obtain ⟨a1, a2⟩ := step_head ok (u := u) ((loss_k k0).1 hq)
    obtain ⟨b1, b2⟩ := step_head ok (u := u) ((loss_k k1).1 hq)
    unfold imin imax
    refine ⟨⟨?_, ?_⟩, ⟨?_, ?_⟩⟩ <;> split <;> omega
  · obtain ⟨a1, a2⟩ := step_head ok (u := u) ((loss_k k0).2 hq)
    obtain ⟨b1, b2⟩ := step_head ok (u := u) ((loss_k k1).2 hq)
    unfold imin imax
    refine ⟨⟨?_, ?_⟩, ⟨?_, ?_⟩⟩ <;> split <;> omega
theorem lev_mono {r : Ru} (ok : r.Ok) {z z' q q' u k : Int} (k0 : 0 ≤ k) (k1 : k ≤ r.hi) (u0 : 0 ≤ u) (u1 : u ≤ 1000) (hz : z ≤ z') (p0 : -1000 ≤ q) (hq : q ≤ q') (q1 : q' ≤ 1000) : (stepS r (z, q) u k).1 ≤ (stepS r (z', q') u k).1 := by
  have h1 := (cross_z ok (q := q) (u := u) (k := k) hz).2
  have h2 := (cross_q ok (z := z') (k := k) k0 k1 u0 u1 p0 hq q1).2
  omega
theorem flow_mono {r : Ru} (ok : r.Ok) {z z' q q' u k : Int} (k0 : 0 ≤ k) (k1 : k ≤ r.hi) (u0 : 0 ≤ u) (u1 : u ≤ 1000) (hz : z' ≤ z) (p0 : -1000 ≤ q) (hq : q ≤ q') (q1 : q' ≤ 1000) : (stepS r (z, q) u k).2 ≤ (stepS r (z', q') u k).2 := by
  have h1 := (cross_z ok (q := q) (u := u) (k := k) hz).1
  have h2 := (cross_q ok (z := z') (k := k) k0 k1 u0 u1 p0 hq q1).1
  show stepQ r (z, q) u k ≤ stepQ r (z', q') u k
  omega
theorem imin_mono {a b c d : Int} (h : a ≤ c) (h' : b ≤ d) : imin a b ≤ imin c d := by unfold imin; split <;> split <;> omega
theorem imax_mono {a b c d : Int} (h : a ≤ c) (h' : b ≤ d) : imax a b ≤ imax c d := by unfold imax; split <;> split <;> omega
/-- The state after a step lies in the step of a box. -/
theorem box_in {r : Ru} {b : Bx} {s : Int × Int} {u k : Int} (i : BIn r b u) (h : InB b s) (k0 : r.lo ≤ k) (k1 : k ≤ r.hi) : InB (boxS r b u) (stepS r s u k) := by
  obtain ⟨z, q⟩ := s
  obtain ⟨h1, h2, h3, h4⟩ := h
  simp only at h1 h2 h3 h4
  have c0 := i.c0; have d1 := i.d1; have u0 := i.u0; have u1 := i.u1; have lo := i.ok.lo; have hi := i.ok.hi; have le := i.ok.le
  obtain ⟨⟨m1, m2⟩, ⟨m3, m4⟩⟩ := step_k i.ok (s := (z, q)) (u := u) k0 k1
  have ll : ∀ k, 0 ≤ k → k ≤ r.hi → (stepS r (b.a, b.c) u k).1 ≤ (stepS r (z, q) u k).1 := fun k e0 e1 => lev_mono i.ok e0 e1 u0 u1 h1 c0 h3 (by omega)
  have lh : ∀ k, 0 ≤ k → k ≤ r.hi → (stepS r (z, q) u k).1 ≤ (stepS r (b.b, b.d) u k).1 := fun k e0 e1 => lev_mono i.ok e0 e1 u0 u1 h2 (by omega) h4 d1
  have fl : ∀ k, 0 ≤ k → k ≤ r.hi → (stepS r (b.b, b.c) u k).2 ≤ (stepS r (z, q) u k).2 := fun k e0 e1 => flow_mono i.ok e0 e1 u0 u1 h2 c0 h3 (by omega)
  have fh : ∀ k, 0 ≤ k → k ≤ r.hi → (stepS r (z, q) u k).2 ≤ (stepS r (b.a, b.d) u k).2 := fun k e0 e1 => flow_mono i.ok e0 e1 u0 u1 h1 (by omega) h4 d1
  have x1 := imin_mono (ll r.lo lo.1 le) (ll r.hi hi.1 (Int.le_refl _))
  have x2 := imax_mono (lh r.lo lo.1 le) (lh r.hi hi.1 (Int.le_refl _))
  have x3 := imin_mono (fl r.lo lo.1 le) (fl r.hi hi.1 (Int.le_refl _))
  have x4 := imax_mono (fh r.lo lo.1 le) (fh r.hi hi.1 (Int.le_refl _))
  unfold InB boxS
  simp only
  omega
/-- A smaller box has a step that lies in it. -/
theorem box_sub {r : Ru} {b d : Bx} {u : Int} (i : BIn r b u) (j : BIn r d u) (h : SubB d b) : SubB (boxS r d u) (boxS r b u) := by
  obtain ⟨h1, h2, h3, h4⟩ := h
  have c0 := i.c0; have d1 := i.d1; have u0 := i.u0; have u1 := i.u1; have lo := i.ok.lo; have hi := i.ok.hi; have le := i.ok.le
  have c0' := j.c0; have d1' := j.d1; have c1' := j.c1; have d0' := j.d0
  have ll : ∀ k, 0 ≤ k → k ≤ r.hi → (stepS r (b.a, b.c) u k).1 ≤ (stepS r (d.a, d.c) u k).1 := fun k e0 e1 => lev_mono i.ok e0 e1 u0 u1 h1 c0 h3 c1'
  have lh : ∀ k, 0 ≤ k → k ≤ r.hi → (stepS r (d.b, d.d) u k).1 ≤ (stepS r (b.b, b.d) u k).1 := fun k e0 e1 => lev_mono i.ok e0 e1 u0 u1 h2 d0' h4 d1
  have fl : ∀ k, 0 ≤ k → k ≤ r.hi → (stepS r (b.b, b.c) u k).2 ≤ (stepS r (d.b, d.c) u k).2 := fun k e0 e1 => flow_mono i.ok e0 e1 u0 u1 h2 c0 h3 c1'
  have fh : ∀ k, 0 ≤ k → k ≤ r.hi → (stepS r (d.a, d.d) u k).2 ≤ (stepS r (b.a, b.d) u k).2 := fun k e0 e1 => flow_mono i.ok e0 e1 u0 u1 h1 d0' h4 d1
  have x1 := imin_mono (ll r.lo lo.1 le) (ll r.hi hi.1 (Int.le_refl _))
  have x2 := imax_mono (lh r.lo lo.1 le) (lh r.hi hi.1 (Int.le_refl _))
  have x3 := imin_mono (fl r.lo lo.1 le) (fl r.hi hi.1 (Int.le_refl _))
  have x4 := imax_mono (fh r.lo lo.1 le) (fh r.hi hi.1 (Int.le_refl _))
  unfold SubB boxS
  simp only
  omega
theorem box_flow (r : Ru) (b : Bx) (u : Int) : -1000 ≤ (boxS r b u).c ∧ (boxS r b u).d ≤ 1000 := by
  have e : ∀ s k, (stepS r s u k).2 = stepQ r s u k := fun _ _ => rfl
  have c : ∀ s k, -1000 ≤ stepQ r s u k ∧ stepQ r s u k ≤ 1000 := fun s k => clampQ_in _
  unfold boxS imin imax
  simp only [e]
  have c1 := c (b.b, b.c) r.lo; have c2 := c (b.b, b.c) r.hi; have c3 := c (b.a, b.d) r.lo; have c4 := c (b.a, b.d) r.hi
  constructor <;> split <;> omega
theorem flow_in (r : Ru) (s : Int × Int) (u k : Int) : -1000 ≤ (stepS r s u k).2 ∧ (stepS r s u k).2 ≤ 1000 := clampQ_in _
theorem stE_of {s : Int × Int} (h : -100000 ≤ s.1 ∧ s.1 ≤ 100000) (h' : -1000 ≤ s.2 ∧ s.2 ≤ 1000) : stE s = 0 := by
  unfold stE; rw [if_pos]; simp only [Bool.and_eq_true, win_iff]; omega
theorem bxE_of {b : Bx} (k : BxOk b) : bxE b = 0 := by
  have a0 := k.a0; have a1 := k.a1; have b0 := k.b0; have b1 := k.b1; have c0 := k.c0; have c1 := k.c1; have d0 := k.d0; have d1 := k.d1; have ab := k.ab; have cd := k.cd
  have h1 : rgE b.a b.b 100000 = 0 := by
    unfold rgE; rw [if_pos, if_pos ab]; simp only [Bool.and_eq_true, win_iff]; omega
  have h2 : rgE b.c b.d 1000 = 0 := by
    unfold rgE; rw [if_pos, if_pos cd]; simp only [Bool.and_eq_true, win_iff]; omega
  unfold bxE; rw [if_pos h1, h2]
theorem bin_of {r : Ru} (ok : r.Ok) {b : Bx} (k : BxOk b) {u : Int} (u0 : 0 ≤ u) (u1 : u ≤ 1000) : BIn r b u := by
  have a0 := k.a0; have a1 := k.a1; have b0 := k.b0; have b1 := k.b1
  exact ⟨ok, by omega, by omega, by omega, by omega, k.c0, k.c1, k.d0, k.d1, u0, u1⟩
/-- How the run and both boxes stand. -/
structure EnI (b sm : Bx) (s : Int × Int) : Prop where
  kb : BxOk b
  ks : BxOk sm
  is : InB sm s
  sub : SubB sm b
structure EnS (r : Ru) (b sm : Bx) (s : Int × Int) (u k : Int) : Prop where
  i1 : InB (boxS r b u) (stepS r s u k)
  i2 : InB (boxS r sm u) (stepS r s u k)
  sub : SubB (boxS r sm u) (boxS r b u)
  go : -100000 ≤ (boxS r b u).a → (boxS r b u).b ≤ 100000 → EnI (boxS r b u) (boxS r sm u) (stepS r s u k)
theorem en_step {r : Ru} (ok : r.Ok) {b sm : Bx} {s : Int × Int} (h : EnI b sm s) {u k : Int} (u0 : 0 ≤ u) (u1 : u ≤ 1000) (k0 : r.lo ≤ k) (k1 : k ≤ r.hi) : EnS r b sm s u k := by
  have i := bin_of ok h.kb u0 u1; have j := bin_of ok h.ks u0 u1
  have hb : InB b s := by
    obtain ⟨a1, a2, a3, a4⟩ := h.is; obtain ⟨b1, b2, b3, b4⟩ := h.sub
    exact ⟨by omega, by omega, by omega, by omega⟩
  have i1 := box_in i hb k0 k1
  have i2 := box_in j h.is k0 k1
  have sub := box_sub i j h.sub
  refine ⟨i1, i2, sub, fun g0 g1 => ?_⟩
  have f1 := box_flow r b u; have f2 := box_flow r sm u
  obtain ⟨a1, a2, a3, a4⟩ := i2; obtain ⟨b1, b2, b3, b4⟩ := sub; obtain ⟨c1, c2, c3, c4⟩ := i1
  exact ⟨by constructor <;> omega, by constructor <;> omega, ⟨a1, a2, a3, a4⟩, ⟨b1, b2, b3, b4⟩⟩
end Go.Proofs.Ytlknncjnfgnlaaa.Eng
