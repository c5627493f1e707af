/-
  SURGE: rules, states, steps.
-/
import Derived.Test.YtlknncjnfgnlaaaCode1
import Derived.Test.YtlknncjnfgnlaaaEng2
import Derived.Test.YtlknncjnfgnlaaaEng3
import Derived.Test.YtlknncjnfgnlaaaEng4
namespace Go.Proofs.Ytlknncjnfgnlaaa.Eng
set_option linter.unusedSimpArgs false
set_option linter.unusedVariables false

def win (a b c : Int) : Bool := decide (b ≤ a) && decide (a ≤ c)
theorem win_iff {a b c : Int} : win a b c = true ↔ b ≤ a ∧ a ≤ c := by simp [win]
def firstNZ : List Int → Int
  | [] => 0
  | e :: l => if e = 0 then firstNZ l else e
/-- Rules. -/
structure Ru where
  n : Int
  a : Int
  lo : Int
  hi : Int
  th : Int
def Ru.enc (r : Ru) : AVal := .agg [.int .i64 r.n, .int .i64 r.a, .int .i64 r.lo, .int .i64 r.hi, .int .i64 r.th]
def Ru.ch (r : Ru) : AVal := .agg [.int .i64 r.n, .int .i64 r.a, .int .i64 r.lo, .int .i64 r.hi, .int .i64 r.th, .int .i64 r.lo, .int .i64 r.hi]
def ch0 : AVal := .agg [.int .i64 0, .int .i64 0, .int .i64 0, .int .i64 0, .int .i64 0, .int .i64 0, .int .i64 0]
def Ru.e (r : Ru) : Int := if win r.lo 0 100 && win r.hi 0 100 && win r.th 0 100 && win r.n 1 1000 && win r.a 1 1000 then (if r.lo ≤ r.hi then (if 2001 * r.hi + 4001 * r.th + 2000 ≤ 1000 * r.n then 0 else 13) else 9) else 2
structure Ru.Ok (r : Ru) : Prop where
  n : 1 ≤ r.n ∧ r.n ≤ 1000
  a : 1 ≤ r.a ∧ r.a ≤ 1000
  lo : 0 ≤ r.lo ∧ r.lo ≤ 100
  hi : 0 ≤ r.hi ∧ r.hi ≤ 100
  th : 0 ≤ r.th ∧ r.th ≤ 100
  le : r.lo ≤ r.hi
  cl : 2001 * r.hi + 4001 * r.th + 2000 ≤ 1000 * r.n
theorem Ru.ok {r : Ru} (h : r.e = 0) : r.Ok := by
  unfold Ru.e at h
  split at h
  · rename_i h1
    simp only [Bool.and_eq_true, win_iff] at h1
    split at h
    · split at h
      · exact ⟨h1.1.2, h1.2, h1.1.1.1.1, h1.1.1.1.2, h1.1.1.2, by assumption, by assumption⟩
      · omega
    · omega
  · omega
def stE (s : Int × Int) : Int := if win s.1 (-100000) 100000 && win s.2 (-1000) 1000 then 0 else 2
def ldE (u : Int) : Int := if win u 0 1000 then 0 else 2
def frE (r : Ru) (k : Int) : Int := if win k r.lo r.hi then 0 else 2
def st (s : Int × Int) : AVal := .agg [.int .i64 s.1, .int .i64 s.2]
def sq (q : Int) : Int := if q < -q then -q else q
def loss (k q : Int) : Int := (k * q * sq q).tdiv 1000
def clampQ (f : Int) : Int := if f < -1000 then -1000 else if 1000 < f then 1000 else f
def headS (r : Ru) (s : Int × Int) (u k : Int) : Int := s.1 + loss k s.2 + loss r.th (s.2 - u)
def stepQ (r : Ru) (s : Int × Int) (u k : Int) : Int := clampQ (s.2 - headS r s u k / r.n)
def stepS (r : Ru) (s : Int × Int) (u k : Int) : Int × Int := (s.1 + (stepQ r s u k - u) / r.a, stepQ r s u k)
theorem floor_eq {n d : Int} (hd : 0 < d) : (if n.tmod d < 0 then n.tdiv d - 1 else n.tdiv d) = n / d := by
  rw [Int.tmod_eq_emod, Int.tdiv_eq_ediv]
  have h0 := Int.emod_nonneg n (Int.ne_of_gt hd)
  have h1 := Int.emod_lt_of_pos n hd
  have hn : (d.natAbs : Int) = d := by omega
  have hs : d.sign = 1 := Int.sign_eq_one_of_pos hd
  by_cases hc : 0 ≤ n ∨ d ∣ n
  · rw [if_pos hc, if_pos hc]; split <;> omega
  · rw [if_neg hc, if_neg hc, hs, hn]; split <;> omega
theorem sq_bd {q M : Int} (h1 : -M ≤ q) (h2 : q ≤ M) : 0 ≤ sq q ∧ sq q ≤ M := by unfold sq; split <;> omega
theorem mul_bd {a b A B : Int} (a1 : -A ≤ a) (a2 : a ≤ A) (b1 : -B ≤ b) (b2 : b ≤ B) : -(A * B) ≤ a * b ∧ a * b ≤ A * B := by
  have h1 : 0 ≤ (A - a) * (B - b) := Int.mul_nonneg (by omega) (by omega)
  have h2 : 0 ≤ (A + a) * (B + b) := Int.mul_nonneg (by omega) (by omega)
  have h3 : 0 ≤ (A - a) * (B + b) := Int.mul_nonneg (by omega) (by omega)
  have h4 : 0 ≤ (A + a) * (B - b) := Int.mul_nonneg (by omega) (by omega)
  rw [Int.sub_mul, Int.mul_sub, Int.mul_sub] at h1
  rw [Int.add_mul, Int.mul_add, Int.mul_add] at h2
  rw [Int.sub_mul, Int.mul_add, Int.mul_add] at h3
  rw [Int.add_mul, Int.mul_sub, Int.mul_sub] at h4
  constructor <;> omega
theorem tdiv_bd {x M : Int} (h1 : -(M * 1000) ≤ x) (h2 : x ≤ M * 1000) : -M ≤ x.tdiv 1000 ∧ x.tdiv 1000 ≤ M := by
  have hs : Int.sign 1000 = 1 := rfl
  rw [Int.tdiv_eq_ediv, hs]; split <;> omega
structure LossOk (k q : Int) : Prop where
  w1 : IntKind.i64.wrap (k * q) = k * q
  w2 : IntKind.i64.wrap (k * q * sq q) = k * q * sq q
  w0 : IntKind.i64.wrap (-q) = -q
  w3 : IntKind.i64.wrap (loss k q) = loss k q
  lo : -400000 ≤ loss k q
  hi : loss k q ≤ 400000
theorem loss_ok {k q : Int} (k0 : 0 ≤ k) (k1 : k ≤ 100) (q0 : -2000 ≤ q) (q1 : q ≤ 2000) : LossOk k q := by
  have h1 := mul_bd (a := k) (b := q) (A := 100) (B := 2000) (by omega) (by omega) (by omega) (by omega)
  have h2 := sq_bd (M := 2000) q0 q1
  have h3 := mul_bd (a := k * q) (b := sq q) (A := 200000) (B := 2000) (by omega) (by omega) (by omega) (by omega)
  have h4 := tdiv_bd (x := k * q * sq q) (M := 400000) (by omega) (by omega)
  refine ⟨by rw [wrap_i64] <;> omega, by rw [wrap_i64] <;> omega, by rw [wrap_i64] <;> omega, ?_, h4.1, h4.2⟩
  unfold loss
  rw [wrap_i64] <;> omega
theorem div_bd {x d M : Int} (hd : 0 < d) (h1 : -M ≤ x) (h2 : x ≤ M) (hM : 0 ≤ M) : -M ≤ x / d ∧ x / d ≤ M := by
  constructor
  · rw [Int.le_ediv_iff_mul_le hd]
    have : M * 1 ≤ M * d := Int.mul_le_mul_of_nonneg_left (by omega) hM
    rw [Int.neg_mul]; omega
  · have h3 : x / d ≤ M / d := Int.ediv_le_ediv hd h2
    have h4 := Int.ediv_le_self (b := d) hM
    omega
section
variable {X : FuncId → Option XFunc} (hX : SuACode X)
include hX
theorem u37 (a b c : Int) (σ : Store) : Run X (.call 37) [.int .i64 a, .int .i64 b, .int .i64 c] σ = some (.ret, [.bool (win a b c)], σ) := by
  refine call3 (v := .bool (win a b c)) hX.h37 rfl rfl rfl (by decide) (fun tm hl h0 h1 h2 => ?_) rfl σ
  simp only [AVal.strip] at h0 h1 h2
  replace hl : tm.length = 15 := hl
  unfold Gives
  by_cases e1 : b ≤ a <;> simp [xf37, hl, h0, h1, h2, e1, win]
theorem u121 (a b c : Int) (σ : Store) : Run X (.call 121) [.int .i64 a, .int .i64 b, .int .i64 c] σ = some (.ret, [.bool (win a b c)], σ) := by
  refine call3 (v := .bool (win a b c)) hX.h121 rfl rfl rfl (by decide) (fun tm hl h0 h1 h2 => ?_) rfl σ
  simp only [AVal.strip] at h0 h1 h2
  replace hl : tm.length = 15 := hl
  unfold Gives
  by_cases e1 : b ≤ a <;> simp [xf121, hl, h0, h1, h2, e1, win]
theorem u81 (c : Bool) (e : Int) (σ : Store) : Run X (.call 81) [.bool c, .int .i64 e] σ = some (.ret, [.int .i64 (if c then 0 else e)], σ) := by
  refine call2 (v := .int .i64 (if c then 0 else e)) hX.h81 rfl rfl (by decide) (fun tm hl h0 h1 => ?_) rfl σ
  simp only [AVal.strip] at h0 h1
  replace hl : tm.length = 7 := hl
  unfold Gives
  cases c <;> simp [xf81, hl, h0, h1]
theorem u79 (a b c : Int) (σ : Store) : Run X (.call 79) [.int .i64 a, .int .i64 b, .int .i64 c] σ = some (.ret, [.int .i64 (if win a b c then 0 else 2)], σ) := by
  refine call3 (v := .int .i64 (if win a b c then 0 else 2)) hX.h79 rfl rfl rfl (by decide) (fun tm hl h0 h1 h2 => ?_) rfl σ
  simp only [AVal.strip] at h0 h1 h2
  replace hl : tm.length = 12 := hl
  unfold Gives
  simp [xf79, hl, h0, h1, h2, u121 hX, u81 hX]
theorem u80 (a : Int) (σ : Store) : Run X (.call 80) [.int .i64 a] σ = some (.ret, [.int .i64 (if win a 0 100 then 0 else 2)], σ) := by
  refine call1 (v := .int .i64 (if win a 0 100 then 0 else 2)) hX.h80 rfl (by decide) (fun tm hl h0 => ?_) rfl σ
  simp only [AVal.strip] at h0
  replace hl : tm.length = 5 := hl
  unfold Gives
  simp [xf80, hl, h0, u79 hX]
theorem u116 (a : Int) (σ : Store) : Run X (.call 116) [.int .i64 a] σ = some (.ret, [.int .i64 (if win a (-100000) 100000 then 0 else 2)], σ) := by
  refine call1 (v := .int .i64 (if win a (-100000) 100000 then 0 else 2)) hX.h116 rfl (by decide) (fun tm hl h0 => ?_) rfl σ
  simp only [AVal.strip] at h0
  replace hl : tm.length = 5 := hl
  unfold Gives
  simp [xf116, hl, h0, u79 hX]
theorem u117 (a : Int) (σ : Store) : Run X (.call 117) [.int .i64 a] σ = some (.ret, [.int .i64 (if win a (-1000) 1000 then 0 else 2)], σ) := by
  refine call1 (v := .int .i64 (if win a (-1000) 1000 then 0 else 2)) hX.h117 rfl (by decide) (fun tm hl h0 => ?_) rfl σ
  simp only [AVal.strip] at h0
  replace hl : tm.length = 5 := hl
  unfold Gives
  simp [xf117, hl, h0, u79 hX]
theorem u118 (a : Int) (σ : Store) : Run X (.call 118) [.int .i64 a] σ = some (.ret, [.bool (win a 0 1000)], σ) := by
  refine call1 (v := .bool (win a 0 1000)) hX.h118 rfl (by decide) (fun tm hl h0 => ?_) rfl σ
  simp only [AVal.strip] at h0
  replace hl : tm.length = 5 := hl
  unfold Gives
  simp [xf118, hl, h0, u121 hX]
theorem u76 (a : Int) (σ : Store) : Run X (.call 76) [.int .i64 a] σ = some (.ret, [.int .i64 (ldE a)], σ) := by
  refine call1 (v := .int .i64 (ldE a)) hX.h76 rfl (by decide) (fun tm hl h0 => ?_) rfl σ
  simp only [AVal.strip] at h0
  replace hl : tm.length = 6 := hl
  unfold Gives
  simp [xf76, hl, h0, u118 hX, u81 hX, ldE]
theorem u20 (a : Int) (σ : Store) : Run X (.call 20) [.int .i64 a] σ = some (.ret, [.int .i64 (ldE a)], σ) := by
  refine call1 (v := .int .i64 (ldE a)) hX.h20 rfl (by decide) (fun tm hl h0 => ?_) rfl σ
  simp only [AVal.strip] at h0
  replace hl : tm.length = 6 := hl
  unfold Gives
  cases c : win a 0 1000 <;> simp [xf20, hl, h0, u37 hX, ldE, c]
omit hX in
theorem loop74 (es : List Int) (hn : es.length ≤ 1000000000) : ∀ (k i : Nat), i + k = es.length → ∀ (tm : List AVal) (σ : Store), tm.length = 15 → XOpd.eval tm (.t 5) = .list 1 (es.map (.int .i64)) none → XOpd.eval tm (.t 6) = .int .i64 es.length → XOpd.eval tm (.t 7) = .int .i64 i →
    Ends (Run X (.code (.loop xf74l0)) tm σ) (if firstNZ (es.drop i) = 0 then .exit 0 else .ret) fun tm' _ => tm'.length = 15 ∧ (firstNZ (es.drop i) ≠ 0 → XOpd.eval tm' (.t 2) = .int .i64 (firstNZ (es.drop i)))
  | 0, i, hk, tm, σ, hl, h5, h6, h7 => by
    have hi : i = es.length := by omega
    subst hi
    rw [Run_loop]
    simp [xf74l0, hl, h5, h6, h7, firstNZ]
  | k + 1, i, hk, tm, σ, hl, h5, h6, h7 => by
    have hi : i < es.length := by omega
    have hd : es.drop i = es[i] :: es.drop (i + 1) := List.drop_eq_getElem_cons hi
    have hw : IntKind.i64.wrap ((i : Int) + 1) = ((i + 1 : Nat) : Int) := by rw [wrap_i64] <;> omega
    rw [Run_loop, hd]
    by_cases he : es[i] = 0
    · have ih := loop74 es hn k (i + 1) (by omega)
      simp only [firstNZ, he, if_true]
      simp [xf74l0, hl, h5, h6, h7, hi, he, hw, xload, AVal.cells]
      exact ih _ _ (by simp [hl]) (by simp [hl, h5]) (by simp [hl, h6]) (by simp [hl])
    · simp only [firstNZ, he, if_false]
      simp [xf74l0, hl, h5, h6, h7, hi, he, xload, AVal.cells]
omit hX in
theorem ints_free (es : List Int) : freeL (es.map (AVal.int .i64)) = true := by
  induction es with
  | nil => rfl
  | cons e l ih => simp [freeL, AVal.free, ih]
theorem u74 (es : List Int) (hn : es.length ≤ 1000000000) (tok : Option Nat) (σ : Store) : Run X (.call 74) [.list 1 (es.map (.int .i64)) tok] σ = some (.ret, [.int .i64 (firstNZ es)], σ) := by
  refine call1 (v := .int .i64 (firstNZ es)) hX.h74 (by simp [AVal.strip, AVal.free, freeL_strip (ints_free es), ints_free]) (by decide) (fun tm hl h0 => ?_) rfl σ
  simp only [AVal.strip, freeL_strip (ints_free es)] at h0
  replace hl : tm.length = 15 := hl
  have hL := fun tm σ h1 h2 h3 h4 => out_of (loop74 (X := X) es hn es.length 0 (by omega) tm σ h1 h2 h3 h4)
  simp only [List.drop_zero] at hL
  unfold Gives
  by_cases he : firstNZ es = 0
  · simp only [he, if_true] at hL
    simp (maxDischargeDepth := 9) [xf74, hl, h0, hL, he, xlen]
  · simp only [he, if_false] at hL
    simp (maxDischargeDepth := 9) [xf74, hl, h0, hL, he, xlen]
theorem u75 (s : Int × Int) (σ : Store) : Run X (.call 75) [st s] σ = some (.ret, [.int .i64 (stE s)], σ) := by
  have u2 := fun a b tok σ => u74 hX [a, b] (by simp) tok σ
  simp only [List.map_cons, List.map_nil] at u2
  refine call1 (v := .int .i64 (stE s)) hX.h75 rfl (by decide) (fun tm hl h0 => ?_) rfl σ
  simp only [AVal.strip, stripL, st] at h0
  replace hl : tm.length = 11 := hl
  unfold Gives
  cases c1 : win s.1 (-100000) 100000 <;> cases c2 : win s.2 (-1000) 1000 <;> simp [xf75, hl, h0, u116 hX, u117 hX, u2, stE, c1, c2, firstNZ, Store.empty, Store.new, Store.put, Store.get, look, putL, setR, Store.only, Store.merge, touch, wrote, upTo, isIn, okRec, hits, capsOf, xcaps, stripL, AVal.strip, freeL, AVal.free, fillR, chunks, mkV, List.filter]
theorem u18 (s : Int × Int) (σ : Store) : Run X (.call 18) [st s] σ = some (.ret, [.int .i64 (stE s)], σ) := by
  refine call1 (v := .int .i64 (stE s)) hX.h18 rfl (by decide) (fun tm hl h0 => ?_) rfl σ
  simp only [AVal.strip, stripL, st] at h0
  replace hl : tm.length = 13 := hl
  unfold Gives
  cases c1 : win s.1 (-100000) 100000 <;> cases c2 : win s.2 (-1000) 1000 <;> simp [xf18, hl, h0, u37 hX, stE, c1, c2, Store.empty, Store.new, Store.put, Store.get, look, putL, setR, Store.only, Store.merge, touch, wrote, upTo, isIn, okRec, hits, capsOf, xcaps, stripL, AVal.strip, freeL, AVal.free, fillR, chunks, mkV, List.filter]
theorem u21 (r : Ru) (k : Int) (σ : Store) : Run X (.call 21) [r.enc, .int .i64 k] σ = some (.ret, [.int .i64 (frE r k)], σ) := by
  refine call2 (v := .int .i64 (frE r k)) hX.h21 rfl rfl (by decide) (fun tm hl h0 h1 => ?_) rfl σ
  simp only [AVal.strip, stripL, Ru.enc] at h0 h1
  replace hl : tm.length = 14 := hl
  unfold Gives
  cases c1 : win k r.lo r.hi <;> simp [xf21, hl, h0, h1, u37 hX, frE, c1, Store.empty, Store.new, Store.put, Store.get, look, putL, setR, Store.only, Store.merge, touch, wrote, upTo, isIn, okRec, hits, capsOf, xcaps, stripL, AVal.strip, freeL, AVal.free, fillR, chunks, mkV, List.filter]
theorem u77 (r : Ru) (k : Int) (σ : Store) : Run X (.call 77) [r.ch, .int .i64 k] σ = some (.ret, [.int .i64 (frE r k)], σ) := by
  refine call2 (v := .int .i64 (frE r k)) hX.h77 rfl rfl (by decide) (fun tm hl h0 h1 => ?_) rfl σ
  simp only [AVal.strip, stripL, Ru.ch] at h0 h1
  replace hl : tm.length = 15 := hl
  unfold Gives
  simp [xf77, hl, h0, h1, u79 hX, frE, Store.empty, Store.new, Store.put, Store.get, look, putL, setR, Store.only, Store.merge, touch, wrote, upTo, isIn, okRec, hits, capsOf, xcaps, stripL, AVal.strip, freeL, AVal.free, fillR, chunks, mkV, List.filter]
/-- What the check of rules compares, with numbers that went round. -/
def cmpW (r : Ru) : Bool := decide (IntKind.i64.wrap (IntKind.i64.wrap (IntKind.i64.wrap (2001 * r.hi) + IntKind.i64.wrap (4001 * r.th)) + 2000) ≤ IntKind.i64.wrap (1000 * r.n))
omit hX in
theorem rules_eq (r : Ru) : firstNZ [if win r.n 1 1000 then 0 else 2, if win r.a 1 1000 then 0 else 2, if win r.lo 0 100 then 0 else 2, if win r.hi 0 100 then 0 else 2, if win r.th 0 100 then 0 else 2, if decide (r.lo ≤ r.hi) then 0 else 9, if cmpW r then 0 else 13] = r.e := by
  unfold Ru.e
  cases c1 : win r.n 1 1000 <;> cases c2 : win r.a 1 1000 <;> cases c3 : win r.lo 0 100 <;> cases c4 : win r.hi 0 100 <;> cases c5 : win r.th 0 100 <;> simp [firstNZ]
  have e1 := win_iff.1 c1; have e4 := win_iff.1 c4; have e5 := win_iff.1 c5
  have w1 : IntKind.i64.wrap (2001 * r.hi) = 2001 * r.hi := by rw [wrap_i64] <;> omega
  have w2 : IntKind.i64.wrap (4001 * r.th) = 4001 * r.th := by rw [wrap_i64] <;> omega
  have w3 : IntKind.i64.wrap (2001 * r.hi + 4001 * r.th) = 2001 * r.hi + 4001 * r.th := by rw [wrap_i64] <;> omega
  have w4 : IntKind.i64.wrap (2001 * r.hi + 4001 * r.th + 2000) = 2001 * r.hi + 4001 * r.th + 2000 := by rw [wrap_i64] <;> omega
  have w5 : IntKind.i64.wrap (1000 * r.n) = 1000 * r.n := by rw [wrap_i64] <;> omega
  unfold cmpW
  rw [w1, w2, w3, w4, w5]
  by_cases h1 : r.lo ≤ r.hi <;> by_cases h2 : 2001 * r.hi + 4001 * r.th + 2000 ≤ 1000 * r.n <;> simp [h1, h2]
set_option maxHeartbeats 4000000 in
theorem u17 (r : Ru) (σ : Store) : Run X (.call 17) [r.enc] σ = some (.ret, [.int .i64 r.e], σ) := by
  have u2 := fun a b c d e f g tok σ => u74 hX [a, b, c, d, e, f, g] (by simp) tok σ
  simp only [List.map_cons, List.map_nil] at u2
  refine call1 (v := .int .i64 r.e) hX.h17 rfl (by decide) (fun tm hl h0 => ?_) rfl σ
  simp only [AVal.strip, stripL, Ru.enc] at h0
  replace hl : tm.length = 44 := hl
  rw [← rules_eq]
  unfold Gives
  simp [xf17, hl, h0, u79 hX, u80 hX, u81 hX, u2, cmpW, Store.empty, Store.new, Store.put, Store.get, look, putL, setR, Store.only, Store.merge, touch, wrote, upTo, isIn, okRec, hits, capsOf, xcaps, stripL, AVal.strip, freeL, AVal.free, fillR, chunks, mkV, List.filter]
theorem u19 (r : Ru) (s : Int × Int) (σ : Store) : Run X (.call 19) [r.enc, st s] σ = some (.ret, [.int .i64 (if r.e = 0 then stE s else r.e)], σ) := by
  have u2 := fun a b tok σ => u74 hX [a, b] (by simp) tok σ
  simp only [List.map_cons, List.map_nil] at u2
  have u17 := u17 hX r; have u75 := u75 hX s
  simp only [Ru.enc, st] at u17 u75
  refine call2 (v := .int .i64 (if r.e = 0 then stE s else r.e)) hX.h19 rfl rfl (by decide) (fun tm hl h0 h1 => ?_) rfl σ
  simp only [AVal.strip, stripL, Ru.enc, st] at h0 h1
  replace hl : tm.length = 11 := hl
  unfold Gives
  by_cases c1 : r.e = 0 <;> by_cases c2 : stE s = 0 <;> simp [xf19, hl, h0, h1, u17, u75, u2, c1, c2, firstNZ, Store.empty, Store.new, Store.put, Store.get, look, putL, setR, Store.only, Store.merge, touch, wrote, upTo, isIn, okRec, hits, capsOf, xcaps, stripL, AVal.strip, freeL, AVal.free, fillR, chunks, mkV, List.filter]
set_option maxHeartbeats 4000000 in
theorem u16 (r : Ru) (σ : Store) : Run X (.call 16) [r.enc] σ = some (.ret, [.int .i64 r.e], σ) := by
  refine call1 (v := .int .i64 r.e) hX.h16 rfl (by decide) (fun tm hl h0 => ?_) rfl σ
  simp only [AVal.strip, stripL, Ru.enc] at h0
  replace hl : tm.length = 56 := hl
  unfold Gives Ru.e
  cases c3 : win r.lo 0 100
  · simp [xf16, xf16l0, Run_loop, wr1, wr2, wr3, ix1, ix2, hl, h0, u37 hX, c3, Store.empty, Store.new, Store.put, Store.get, look, putL, setR, Store.only, Store.merge, touch, wrote, upTo, isIn, okRec, hits, capsOf, xcaps, stripL, AVal.strip, freeL, AVal.free, fillR, chunks, mkV, List.filter]
  cases c4 : win r.hi 0 100
  · simp [xf16, xf16l0, Run_loop, wr1, wr2, wr3, ix1, ix2, hl, h0, u37 hX, c3, c4, Store.empty, Store.new, Store.put, Store.get, look, putL, setR, Store.only, Store.merge, touch, wrote, upTo, isIn, okRec, hits, capsOf, xcaps, stripL, AVal.strip, freeL, AVal.free, fillR, chunks, mkV, List.filter]
  cases c5 : win r.th 0 100
  · simp [xf16, xf16l0, Run_loop, wr1, wr2, wr3, ix1, ix2, hl, h0, u37 hX, c3, c4, c5, Store.empty, Store.new, Store.put, Store.get, look, putL, setR, Store.only, Store.merge, touch, wrote, upTo, isIn, okRec, hits, capsOf, xcaps, stripL, AVal.strip, freeL, AVal.free, fillR, chunks, mkV, List.filter]
  cases c1 : win r.n 1 1000
  · simp [xf16, xf16l0, Run_loop, wr1, wr2, wr3, ix1, ix2, hl, h0, u37 hX, c3, c4, c5, c1, Store.empty, Store.new, Store.put, Store.get, look, putL, setR, Store.only, Store.merge, touch, wrote, upTo, isIn, okRec, hits, capsOf, xcaps, stripL, AVal.strip, freeL, AVal.free, fillR, chunks, mkV, List.filter]
  cases c2 : win r.a 1 1000
  · simp [xf16, xf16l0, Run_loop, wr1, wr2, wr3, ix1, ix2, hl, h0, u37 hX, c3, c4, c5, c1, c2, Store.empty, Store.new, Store.put, Store.get, look, putL, setR, Store.only, Store.merge, touch, wrote, upTo, isIn, okRec, hits, capsOf, xcaps, stripL, AVal.strip, freeL, AVal.free, fillR, chunks, mkV, List.filter]
  have e1 := win_iff.1 c1; have e4 := win_iff.1 c4; have e5 := win_iff.1 c5
  have w1 : IntKind.i64.wrap (2001 * r.hi) = 2001 * r.hi := by rw [wrap_i64] <;> omega
  have w2 : IntKind.i64.wrap (4001 * r.th) = 4001 * r.th := by rw [wrap_i64] <;> omega
  have w3 : IntKind.i64.wrap (2001 * r.hi + 4001 * r.th) = 2001 * r.hi + 4001 * r.th := by rw [wrap_i64] <;> omega
  have w4 : IntKind.i64.wrap (2001 * r.hi + 4001 * r.th + 2000) = 2001 * r.hi + 4001 * r.th + 2000 := by rw [wrap_i64] <;> omega
  have w5 : IntKind.i64.wrap (1000 * r.n) = 1000 * r.n := by rw [wrap_i64] <;> omega
  by_cases h1 : r.lo ≤ r.hi
  · have h1' : ¬ r.hi < r.lo := by omega
    by_cases h2 : 2001 * r.hi + 4001 * r.th + 2000 ≤ 1000 * r.n
    · have h2' : ¬ 1000 * r.n < 2001 * r.hi + 4001 * r.th + 2000 := by omega
      simp [xf16, xf16l0, Run_loop, wr1, wr2, wr3, ix1, ix2, hl, h0, u37 hX, c3, c4, c5, c1, c2, h1, h1', h2, h2', w1, w2, w3, w4, w5, Store.empty, Store.new, Store.put, Store.get, look, putL, setR, Store.only, Store.merge, touch, wrote, upTo, isIn, okRec, hits, capsOf, xcaps, stripL, AVal.strip, freeL, AVal.free, fillR, chunks, mkV, List.filter]
    · have h2' : 1000 * r.n < 2001 * r.hi + 4001 * r.th + 2000 := by omega
      simp [xf16, xf16l0, Run_loop, wr1, wr2, wr3, ix1, ix2, hl, h0, u37 hX, c3, c4, c5, c1, c2, h1, h1', h2, h2', w1, w2, w3, w4, w5, Store.empty, Store.new, Store.put, Store.get, look, putL, setR, Store.only, Store.merge, touch, wrote, upTo, isIn, okRec, hits, capsOf, xcaps, stripL, AVal.strip, freeL, AVal.free, fillR, chunks, mkV, List.filter]
  · have h1' : r.hi < r.lo := by omega
    simp [xf16, xf16l0, Run_loop, wr1, wr2, wr3, ix1, ix2, hl, h0, u37 hX, c3, c4, c5, c1, c2, h1, h1', Store.empty, Store.new, Store.put, Store.get, look, putL, setR, Store.only, Store.merge, touch, wrote, upTo, isIn, okRec, hits, capsOf, xcaps, stripL, AVal.strip, freeL, AVal.free, fillR, chunks, mkV, List.filter]
theorem u73 (r : Ru) (σ : Store) : Run X (.call 73) [r.enc] σ = some (.ret, [.tup [if r.e = 0 then r.ch else ch0, .int .i64 r.e]], σ) := by
  have u17 := u17 hX r
  simp only [Ru.enc] at u17
  by_cases c : r.e = 0
  · simp only [c, if_true]
    refine call1 (a := r.enc) (v := .tup [r.ch, .int .i64 0]) hX.h73 rfl (by decide) (fun tm hl h0 => ?_) rfl σ
    simp only [AVal.strip, stripL, Ru.enc] at h0
    replace hl : tm.length = 20 := hl
    unfold Gives
    simp [xf73, hl, h0, u17, c, Ru.ch, xresult, xrets, Store.empty, Store.new, Store.put, Store.get, look, putL, setR, Store.only, Store.merge, touch, wrote, upTo, isIn, okRec, hits, capsOf, xcaps, stripL, AVal.strip, freeL, AVal.free, fillR, chunks, mkV, List.filter]
  · simp only [c, if_false]
    refine call1 (a := r.enc) (v := .tup [ch0, .int .i64 r.e]) hX.h73 rfl (by decide) (fun tm hl h0 => ?_) rfl σ
    simp only [AVal.strip, stripL, Ru.enc] at h0
    replace hl : tm.length = 20 := hl
    unfold Gives
    simp [xf73, hl, h0, u17, c, ch0, xresult, xrets, Store.empty, Store.new, Store.put, Store.get, look, putL, setR, Store.only, Store.merge, touch, wrote, upTo, isIn, okRec, hits, capsOf, xcaps, stripL, AVal.strip, freeL, AVal.free, fillR, chunks, mkV, List.filter]
theorem u122 (q : Int) (h : IntKind.i64.wrap (-q) = -q) (σ : Store) : Run X (.call 122) [.int .i64 q] σ = some (.ret, [.int .i64 (sq q)], σ) := by
  refine call1 (v := .int .i64 (sq q)) hX.h122 rfl (by decide) (fun tm hl h0 => ?_) rfl σ
  simp only [AVal.strip] at h0
  replace hl : tm.length = 7 := hl
  unfold Gives sq
  by_cases c : q < -q <;> simp [xf122, hl, h0, h, c, xext, xmm]
theorem u119 {k q : Int} (ok : LossOk k q) (σ : Store) : Run X (.call 119) [.int .i64 k, .int .i64 q] σ = some (.ret, [.int .i64 (loss k q)], σ) := by
  have h0' := ok.w0; have h1' := ok.w1; have h2' := ok.w2; have h3' := ok.w3
  refine call2 (v := .int .i64 (loss k q)) hX.h119 rfl rfl (by decide) (fun tm hl h0 h1 => ?_) rfl σ
  simp only [AVal.strip] at h0 h1
  replace hl : tm.length = 14 := hl
  unfold Gives
  unfold loss sq at *
  by_cases c : q < -q <;> simp only [c, if_true, if_false] at h2' h3' ⊢ <;> simp [xf119, hl, h0, h1, h0', h1', h2', h3', c, xext, xmm]
theorem u82 {k q : Int} (ok : LossOk k q) (σ : Store) : Run X (.call 82) [.int .i64 k, .int .i64 q] σ = some (.ret, [.int .i64 (loss k q)], σ) := by
  have h0' := ok.w0; have h1' := ok.w1; have h2' := ok.w2; have h3' := ok.w3
  refine call2 (v := .int .i64 (loss k q)) hX.h82 rfl rfl (by decide) (fun tm hl h0 h1 => ?_) rfl σ
  simp only [AVal.strip] at h0 h1
  replace hl : tm.length = 12 := hl
  unfold Gives
  unfold loss at *
  simp [xf82, hl, h0, h1, h0', h1', h2', h3', u122 hX]
omit hX in
theorem quo_bd {n d : Int} (hd : 0 < d) (hd2 : d ≤ 1000000) (h1 : -1000000000000 ≤ n) (h2 : n ≤ 1000000000000) : IntKind.i64.wrap (n.tdiv d) = n.tdiv d ∧ IntKind.i64.wrap (n.tdiv d - 1) = n.tdiv d - 1 ∧ IntKind.i64.wrap (n.tmod d) = n.tmod d := by
  have e := floor_eq (n := n) hd
  have b := div_bd (x := n) (M := 1000000000000) hd h1 h2 (by omega)
  have m1 : -d < n.tmod d ∧ n.tmod d < d := by
    have h0 := Int.emod_nonneg n (Int.ne_of_gt hd)
    have h1 := Int.emod_lt_of_pos n hd
    rw [Int.tmod_eq_emod]; split <;> omega
  have q : -1000000000002 ≤ n.tdiv d ∧ n.tdiv d ≤ 1000000000002 := by split at e <;> omega
  refine ⟨?_, ?_, ?_⟩ <;> (rw [wrap_i64] <;> omega)
theorem u120 {n d : Int} (hd : 0 < d) (hd2 : d ≤ 1000000) (h1 : -1000000000000 ≤ n) (h2 : n ≤ 1000000000000) (σ : Store) : Run X (.call 120) [.int .i64 n, .int .i64 d] σ = some (.ret, [.int .i64 (n / d)], σ) := by
  obtain ⟨q1, q2, q3⟩ := quo_bd hd hd2 h1 h2
  have e := floor_eq (n := n) hd
  have hz : ¬ d = 0 := by omega
  refine call2 (v := .int .i64 (n / d)) hX.h120 rfl rfl (by decide) (fun tm hl h0 h3 => ?_) rfl σ
  simp only [AVal.strip] at h0 h3
  replace hl : tm.length = 16 := hl
  unfold Gives
  rw [← e]
  by_cases c : n.tmod d < 0 <;> simp [xf120, hl, h0, h3, hz, q1, q2, q3, c]
theorem u83 {n d : Int} (hd : 0 < d) (hd2 : d ≤ 1000000) (h1 : -1000000000000 ≤ n) (h2 : n ≤ 1000000000000) (σ : Store) : Run X (.call 83) [.int .i64 n, .int .i64 d] σ = some (.ret, [.int .i64 (n / d)], σ) := by
  obtain ⟨q1, q2, q3⟩ := quo_bd hd hd2 h1 h2
  have e := floor_eq (n := n) hd
  have hz : ¬ d = 0 := by omega
  refine call2 (v := .int .i64 (n / d)) hX.h83 rfl rfl (by decide) (fun tm hl h0 h3 => ?_) rfl σ
  simp only [AVal.strip] at h0 h3
  replace hl : tm.length = 16 := hl
  unfold Gives
  rw [← e]
  by_cases c : n.tmod d < 0 <;> simp [xf83, hl, h0, h3, hz, q1, q2, q3, c]
end
end Go.Proofs.Ytlknncjnfgnlaaa.Eng

/-
  SURGE: a step.
-/
namespace Go.Proofs.Ytlknncjnfgnlaaa.Eng
set_option linter.unusedSimpArgs false
set_option linter.unusedVariables false
/-- What a step needs. -/
structure SIn (r : Ru) (s : Int × Int) (u k : Int) : Prop where
  ok : r.Ok
  z0 : -1000000000 ≤ s.1
  z1 : s.1 ≤ 1000000000
  q0 : -1000 ≤ s.2
  q1 : s.2 ≤ 1000
  u0 : 0 ≤ u
  u1 : u ≤ 1000
  k0 : 0 ≤ k
  k1 : k ≤ 100
structure SOut (r : Ru) (s : Int × Int) (u k : Int) : Prop where
  l1 : LossOk k s.2
  l2 : LossOk r.th (s.2 - u)
  w0 : IntKind.i64.wrap (s.2 - u) = s.2 - u
  w1 : IntKind.i64.wrap (s.1 + loss k s.2) = s.1 + loss k s.2
  w2 : IntKind.i64.wrap (headS r s u k) = headS r s u k
  h0 : -1000000000000 ≤ headS r s u k
  h1 : headS r s u k ≤ 1000000000000
  w3 : IntKind.i64.wrap (s.2 - headS r s u k / r.n) = s.2 - headS r s u k / r.n
  c0 : -1000 ≤ stepQ r s u k
  c1 : stepQ r s u k ≤ 1000
  w4 : IntKind.i64.wrap (stepQ r s u k - u) = stepQ r s u k - u
  d0 : -2000 ≤ (stepQ r s u k - u) / r.a
  d1 : (stepQ r s u k - u) / r.a ≤ 2000
  w5 : IntKind.i64.wrap (s.1 + (stepQ r s u k - u) / r.a) = s.1 + (stepQ r s u k - u) / r.a
theorem clampQ_in (f : Int) : -1000 ≤ clampQ f ∧ clampQ f ≤ 1000 := by unfold clampQ; split <;> (try split) <;> omega
theorem s_out {r : Ru} {s : Int × Int} {u k : Int} (i : SIn r s u k) : SOut r s u k := by
  have z0 := i.z0; have z1 := i.z1; have q0 := i.q0; have q1 := i.q1; have u0 := i.u0; have u1 := i.u1; have k0 := i.k0; have k1 := i.k1
  have hn := i.ok.n; have ha := i.ok.a; have ht := i.ok.th
  have l1 := loss_ok k0 k1 (q := s.2) (by omega) (by omega)
  have l2 := loss_ok ht.1 ht.2 (q := s.2 - u) (by omega) (by omega)
  have a1 := l1.lo; have a2 := l1.hi; have a3 := l2.lo; have a4 := l2.hi
  have e : headS r s u k = s.1 + loss k s.2 + loss r.th (s.2 - u) := rfl
  have h0 : -1000000000000 ≤ headS r s u k := by omega
  have h1 : headS r s u k ≤ 1000000000000 := by omega
  have d := div_bd (x := headS r s u k) (d := r.n) (M := 1000000000000) (by omega) h0 h1 (by omega)
  have c := clampQ_in (s.2 - headS r s u k / r.n)
  have ec : stepQ r s u k = clampQ (s.2 - headS r s u k / r.n) := rfl
  have d2 := div_bd (x := stepQ r s u k - u) (d := r.a) (M := 2000) (by omega) (by omega) (by omega) (by omega)
  refine ⟨l1, l2, by rw [wrap_i64] <;> omega, by rw [wrap_i64] <;> omega, by rw [wrap_i64] <;> omega, h0, h1, by rw [wrap_i64] <;> omega, by omega, by omega, by rw [wrap_i64] <;> omega, d2.1, d2.2, by rw [wrap_i64] <;> omega⟩
section
variable {X : FuncId → Option XFunc} (hX : SuACode X)
include hX
set_option maxHeartbeats 4000000 in
theorem u78 {r : Ru} {s : Int × Int} {u k : Int} (i : SIn r s u k) (σ : Store) : Run X (.call 78) [r.ch, st s, .int .i64 u, .int .i64 k] σ = some (.ret, [st (stepS r s u k)], σ) := by
  have o := s_out i
  have w0 := o.w0; have w1 := o.w1; have w2 := o.w2; have w3 := o.w3; have w4 := o.w4; have w5 := o.w5
  have hn := i.ok.n; have ha := i.ok.a
  have c0 := o.c0; have c1 := o.c1; have u0 := i.u0; have u1 := i.u1
  have f1 := u119 hX o.l1; have f2 := u119 hX o.l2
  have f3 := u120 hX (n := headS r s u k) (d := r.n) (by omega) (by omega) o.h0 o.h1
  have f4 := u120 hX (n := stepQ r s u k - u) (d := r.a) (by omega) (by omega) (by omega) (by omega)
  refine call4 (v := st (stepS r s u k)) hX.h78 rfl rfl rfl rfl (by decide) (fun tm hl h0 h1 h2 h3 => ?_) rfl σ
  simp only [AVal.strip, stripL, Ru.ch, st] at h0 h1 h2 h3
  replace hl : tm.length = 50 := hl
  have ec : stepQ r s u k = clampQ (s.2 - headS r s u k / r.n) := rfl
  unfold Gives stepS
  unfold headS at w2 w3 f3 ec
  unfold clampQ at ec
  by_cases b1 : s.2 - (s.1 + loss k s.2 + loss r.th (s.2 - u)) / r.n < -1000
  · simp only [b1, if_true] at ec
    simp only [ec] at w4 w5 f4 ⊢
    simp [xf78, hl, h0, h1, h2, h3, w0, w1, w2, w3, w4, w5, f1, f2, f3, f4, st, b1, xext, xmm, Store.empty, Store.new, Store.put, Store.get, look, putL, setR, Store.only, Store.merge, touch, wrote, upTo, isIn, okRec, hits, capsOf, xcaps, stripL, AVal.strip, freeL, AVal.free, fillR, chunks, mkV, List.filter]
    done
  · by_cases b2 : 1000 < s.2 - (s.1 + loss k s.2 + loss r.th (s.2 - u)) / r.n
    · simp only [b1, b2, if_true, if_false] at ec
      simp only [ec] at w4 w5 f4 ⊢
      simp [xf78, hl, h0, h1, h2, h3, w0, w1, w2, w3, w4, w5, f1, f2, f3, f4, st, b1, b2, xext, xmm, Store.empty, Store.new, Store.put, Store.get, look, putL, setR, Store.only, Store.merge, touch, wrote, upTo, isIn, okRec, hits, capsOf, xcaps, stripL, AVal.strip, freeL, AVal.free, fillR, chunks, mkV, List.filter]
      done
    · simp only [b1, b2, if_false] at ec
      simp only [ec] at w4 w5 f4 ⊢
      simp [xf78, hl, h0, h1, h2, h3, w0, w1, w2, w3, w4, w5, f1, f2, f3, f4, st, b1, b2, xext, xmm, Store.empty, Store.new, Store.put, Store.get, look, putL, setR, Store.only, Store.merge, touch, wrote, upTo, isIn, okRec, hits, capsOf, xcaps, stripL, AVal.strip, freeL, AVal.free, fillR, chunks, mkV, List.filter]
      done
end
end Go.Proofs.Ytlknncjnfgnlaaa.Eng

/-
  SURGE: steps of the program and of the reference.
-/
namespace Go.Proofs.Ytlknncjnfgnlaaa.Eng
set_option linter.unusedSimpArgs false
set_option linter.unusedVariables false
theorem wrm : IntKind.i64.wrap (-1000) = -1000 := rfl
theorem wrp : IntKind.i64.wrap 1000 = 1000 := rfl
def stpE (r : Ru) (s : Int × Int) (u k : Int) : Int := if r.e = 0 then (if stE s = 0 then (if ldE u = 0 then frE r k else ldE u) else stE s) else r.e
theorem stpE_in {r : Ru} {s : Int × Int} {u k : Int} (h : stpE r s u k = 0) : SIn r s u k := by
  unfold stpE at h
  split at h
  · rename_i h0
    split at h
    · rename_i h1
      split at h
      · rename_i h2
        have ok := Ru.ok h0
        have o1 := ok.lo; have o2 := ok.hi
        unfold stE at h1; unfold ldE at h2; unfold frE at h
        split at h1 <;> try omega
        rename_i c1
        split at h2 <;> try omega
        rename_i c2
        split at h <;> try omega
        rename_i c3
        simp only [Bool.and_eq_true, win_iff] at c1 c2 c3
        exact ⟨ok, by omega, by omega, by omega, by omega, by omega, by omega, by omega, by omega⟩
      · omega
    · omega
  · omega
section
variable {X : FuncId → Option XFunc} (hX : SuACode X)
include hX
set_option maxHeartbeats 4000000 in
theorem u22 {r : Ru} {s : Int × Int} {u k : Int} (i : SIn r s u k) (σ : Store) : Run X (.call 22) [r.enc, st s, .int .i64 u, .int .i64 k] σ = some (.ret, [st (stepS r s u k)], σ) := by
  have o := s_out i
  have w0 := o.w0; have w1 := o.w1; have w2 := o.w2; have w3 := o.w3; have w4 := o.w4; have w5 := o.w5
  have hn := i.ok.n; have ha := i.ok.a
  have c0 := o.c0; have c1 := o.c1; have u0 := i.u0; have u1 := i.u1
  have f1 := u82 hX o.l1; have f2 := u82 hX o.l2
  have f3 := u83 hX (n := headS r s u k) (d := r.n) (by omega) (by omega) o.h0 o.h1
  have f4 := u83 hX (n := stepQ r s u k - u) (d := r.a) (by omega) (by omega) (by omega) (by omega)
  refine call4 (v := st (stepS r s u k)) hX.h22 rfl rfl rfl rfl (by decide) (fun tm hl h0 h1 h2 h3 => ?_) rfl σ
  simp only [AVal.strip, stripL, Ru.enc, st] at h0 h1 h2 h3
  replace hl : tm.length = 47 := hl
  have ec : stepQ r s u k = clampQ (s.2 - headS r s u k / r.n) := rfl
  unfold Gives stepS
  unfold headS at w2 w3 f3 ec
  unfold clampQ at ec
  by_cases b1 : s.2 - (s.1 + loss k s.2 + loss r.th (s.2 - u)) / r.n < -1000
  · have b2 : s.2 - (s.1 + loss k s.2 + loss r.th (s.2 - u)) / r.n < 1000 := by omega
    have b3 : ¬ -1000 < s.2 - (s.1 + loss k s.2 + loss r.th (s.2 - u)) / r.n := by omega
    simp only [b1, if_true] at ec
    simp only [ec] at w4 w5 f4 ⊢
    simp [xf22, hl, h0, h1, h2, h3, w0, w1, w2, w3, w4, w5, f1, f2, f3, f4, st, b1, b2, b3, xext, xmm, Store.empty, Store.new, Store.put, Store.get, look, putL, setR, Store.only, Store.merge, touch, wrote, upTo, isIn, okRec, hits, capsOf, xcaps, stripL, AVal.strip, freeL, AVal.free, fillR, chunks, mkV, List.filter]
    done
  · by_cases b2 : 1000 < s.2 - (s.1 + loss k s.2 + loss r.th (s.2 - u)) / r.n
    · have b3 : ¬ s.2 - (s.1 + loss k s.2 + loss r.th (s.2 - u)) / r.n < 1000 := by omega
      simp only [b1, b2, if_true, if_false] at ec
      simp only [ec] at w4 w5 f4 ⊢
      simp [xf22, hl, h0, h1, h2, h3, w0, w1, w2, w3, w4, w5, f1, f2, f3, f4, st, b1, b2, b3, xext, xmm, Store.empty, Store.new, Store.put, Store.get, look, putL, setR, Store.only, Store.merge, touch, wrote, upTo, isIn, okRec, hits, capsOf, xcaps, stripL, AVal.strip, freeL, AVal.free, fillR, chunks, mkV, List.filter]
      done
    · simp only [b1, b2, if_false] at ec
      simp only [ec] at w4 w5 f4 ⊢
      by_cases b3 : s.2 - (s.1 + loss k s.2 + loss r.th (s.2 - u)) / r.n < 1000
      · by_cases b4 : -1000 < s.2 - (s.1 + loss k s.2 + loss r.th (s.2 - u)) / r.n
        · simp [xf22, hl, h0, h1, h2, h3, w0, w1, w2, w3, w4, w5, f1, f2, f3, f4, st, b1, b2, b3, b4, xext, xmm, Store.empty, Store.new, Store.put, Store.get, look, putL, setR, Store.only, Store.merge, touch, wrote, upTo, isIn, okRec, hits, capsOf, xcaps, stripL, AVal.strip, freeL, AVal.free, fillR, chunks, mkV, List.filter]
          done
        · have b5 : s.2 - (s.1 + loss k s.2 + loss r.th (s.2 - u)) / r.n = -1000 := by omega
          simp only [b5] at w4 w5 f4 ⊢
          simp [xf22, hl, h0, h1, h2, h3, w0, w1, w2, w3, w4, w5, f1, f2, f3, f4, st, b5, wrm, wrp, xext, xmm, Store.empty, Store.new, Store.put, Store.get, look, putL, setR, Store.only, Store.merge, touch, wrote, upTo, isIn, okRec, hits, capsOf, xcaps, stripL, AVal.strip, freeL, AVal.free, fillR, chunks, mkV, List.filter]
          done
      · have b5 : s.2 - (s.1 + loss k s.2 + loss r.th (s.2 - u)) / r.n = 1000 := by omega
        simp only [b5] at w4 w5 f4 ⊢
        simp [xf22, hl, h0, h1, h2, h3, w0, w1, w2, w3, w4, w5, f1, f2, f3, f4, st, b5, wrm, wrp, xext, xmm, Store.empty, Store.new, Store.put, Store.get, look, putL, setR, Store.only, Store.merge, touch, wrote, upTo, isIn, okRec, hits, capsOf, xcaps, stripL, AVal.strip, freeL, AVal.free, fillR, chunks, mkV, List.filter]
        done
set_option maxHeartbeats 4000000 in
theorem u15 (r : Ru) (s : Int × Int) (u k : Int) (σ : Store) : Run X (.call 15) [r.enc, st s, .agg [.int .i64 u, .int .i64 k]] σ = some (.ret, [.tup [st (if stpE r s u k = 0 then stepS r s u k else (0, 0)), .int .i64 (stpE r s u k)]], σ) := by
  have u2 := fun a b c d tok σ => u74 hX [a, b, c, d] (by simp) tok σ
  simp only [List.map_cons, List.map_nil] at u2
  have u73 := u73 hX r; have u75 := u75 hX s
  have z77 := u77 hX ⟨0, 0, 0, 0, 0⟩ k
  simp only [Ru.ch] at z77
  by_cases c1 : r.e = 0
  · have a77 := u77 hX r k
    simp only [c1, if_true] at u73
    simp only [Ru.enc, st, Ru.ch] at u73 u75 a77
    by_cases c2 : stpE r s u k = 0
    · have a78 := u78 hX (stpE_in c2)
      simp only [Ru.ch, st] at a78
      simp only [c2, if_true]
      have c2' := c2
      unfold stpE at c2'
      by_cases d1 : stE s = 0
      · by_cases d2 : ldE u = 0
        · simp only [c1, d1, d2, if_true] at c2'
          refine call3 (a := r.enc) (b := st s) (v := .tup [st (stepS r s u k), .int .i64 0]) hX.h15 rfl rfl rfl (by decide) (fun tm hl h0 h1 h2 => ?_) rfl σ
          simp only [AVal.strip, stripL, Ru.enc, st] at h0 h1 h2
          replace hl : tm.length = 39 := hl
          unfold Gives
          simp [xf15, hl, h0, h1, h2, u73, u75, a77, a78, u76 hX, u2, c1, d1, d2, c2', firstNZ, st, xresult, xrets, Store.empty, Store.new, Store.put, Store.get, look, putL, setR, Store.only, Store.merge, touch, wrote, upTo, isIn, okRec, hits, capsOf, xcaps, stripL, AVal.strip, freeL, AVal.free, fillR, chunks, mkV, List.filter]
        · simp only [c1, d1, d2, if_true, if_false] at c2'
      · simp only [c1, d1, if_true, if_false] at c2'
    · simp only [c2, if_false]
      have ef : stpE r s u k = firstNZ [0, stE s, ldE u, frE r k] := by
        unfold stpE; simp only [c1, if_true, firstNZ]
        by_cases d1 : stE s = 0 <;> by_cases d2 : ldE u = 0 <;> by_cases d3 : frE r k = 0 <;> simp [d1, d2, d3]
      rw [ef] at c2
      rw [ef]
      refine call3 (a := r.enc) (b := st s) (v := .tup [st (0, 0), .int .i64 _]) hX.h15 rfl rfl rfl (by decide) (fun tm hl h0 h1 h2 => ?_) rfl σ
      simp only [AVal.strip, stripL, Ru.enc, st] at h0 h1 h2
      replace hl : tm.length = 39 := hl
      unfold Gives
      simp [xf15, hl, h0, h1, h2, u73, u75, a77, u76 hX, u2, c1, c2, st, xresult, xrets, Store.empty, Store.new, Store.put, Store.get, look, putL, setR, Store.only, Store.merge, touch, wrote, upTo, isIn, okRec, hits, capsOf, xcaps, stripL, AVal.strip, freeL, AVal.free, fillR, chunks, mkV, List.filter]
  · have ef : stpE r s u k = r.e := by unfold stpE; rw [if_neg c1]
    rw [ef, if_neg c1]
    simp only [c1, if_false] at u73
    simp only [Ru.enc, st, ch0] at u73 u75
    refine call3 (a := r.enc) (b := st s) (v := .tup [st (0, 0), .int .i64 r.e]) hX.h15 rfl rfl rfl (by decide) (fun tm hl h0 h1 h2 => ?_) rfl σ
    simp only [AVal.strip, stripL, Ru.enc, st] at h0 h1 h2
    replace hl : tm.length = 39 := hl
    unfold Gives
    simp [xf15, hl, h0, h1, h2, u73, u75, z77, u76 hX, u2, c1, firstNZ, st, xresult, xrets, Store.empty, Store.new, Store.put, Store.get, look, putL, setR, Store.only, Store.merge, touch, wrote, upTo, isIn, okRec, hits, capsOf, xcaps, stripL, AVal.strip, freeL, AVal.free, fillR, chunks, mkV, List.filter]
end
end Go.Proofs.Ytlknncjnfgnlaaa.Eng

/-
  SURGE: a step never crosses another one.
-/
namespace Go.Proofs.Ytlknncjnfgnlaaa.Eng
set_option linter.unusedSimpArgs false
set_option linter.unusedVariables false
theorem ss_diff {p q M : Int} (h0 : -M ≤ p) (h1 : p ≤ q) (h2 : q ≤ M) : p * sq p ≤ q * sq q ∧ q * sq q - p * sq p ≤ 2 * M * (q - p) := by
  have hM : 0 ≤ M := by omega
  have e2 : 2 * M * (q - p) = 2 * (M * (q - p)) := by rw [Int.mul_assoc]
  rw [e2]
  by_cases hp : 0 ≤ p
  · have sp : sq p = p := by unfold sq; split <;> omega
    have sq' : sq q = q := by unfold sq; split <;> omega
    rw [sp, sq']
    have e : q * q - p * p = (q + p) * (q - p) := by rw [Int.add_mul, Int.mul_sub, Int.mul_sub, Int.mul_comm p q]; omega
    have a : 0 ≤ (q + p) * (q - p) := Int.mul_nonneg (by omega) (by omega)
    have b : (q + p) * (q - p) ≤ (2 * M) * (q - p) := Int.mul_le_mul_of_nonneg_right (by omega) (by omega)
    rw [Int.mul_assoc] at b
    omega
  · by_cases hq : 0 ≤ q
    · have sp : sq p = -p := by unfold sq; split <;> omega
      have sq' : sq q = q := by unfold sq; split <;> omega
      rw [sp, sq', Int.mul_neg]
      have a : 0 ≤ q * q := Int.mul_nonneg hq hq
      have a' : 0 ≤ (-p) * (-p) := Int.mul_nonneg (by omega) (by omega)
      have b : q * q ≤ M * q := Int.mul_le_mul_of_nonneg_right (by omega) hq
      have b' : (-p) * (-p) ≤ M * (-p) := Int.mul_le_mul_of_nonneg_right (by omega) (by omega)
      rw [Int.neg_mul_neg] at a' b'
      rw [Int.mul_neg] at b'
      rw [Int.mul_sub]
      have c : 0 ≤ M * q := Int.mul_nonneg hM hq
      have c' : 0 ≤ M * (-p) := Int.mul_nonneg hM (by omega)
      rw [Int.mul_neg] at c'
      omega
    · have sp : sq p = -p := by unfold sq; split <;> omega
      have sq' : sq q = -q := by unfold sq; split <;> omega
      rw [sp, sq', Int.mul_neg, Int.mul_neg]
      have e : p * p - q * q = (-(q + p)) * (q - p) := by rw [Int.neg_mul, Int.add_mul, Int.mul_sub, Int.mul_sub, Int.mul_comm p q]; omega
      have a : 0 ≤ (-(q + p)) * (q - p) := Int.mul_nonneg (by omega) (by omega)
      have b : (-(q + p)) * (q - p) ≤ (2 * M) * (q - p) := Int.mul_le_mul_of_nonneg_right (by omega) (by omega)
      rw [Int.mul_assoc] at b
      omega
theorem tdiv_diff {x y : Int} (h : x ≤ y) : x.tdiv 1000 ≤ y.tdiv 1000 ∧ 1000 * (y.tdiv 1000 - x.tdiv 1000) ≤ y - x + 999 := by
  have hs : Int.sign 1000 = 1 := rfl
  rw [Int.tdiv_eq_ediv, Int.tdiv_eq_ediv, hs]
  split <;> split <;> omega
theorem loss_diff {k p q M : Int} (hk : 0 ≤ k) (h0 : -M ≤ p) (h1 : p ≤ q) (h2 : q ≤ M) : loss k p ≤ loss k q ∧ 1000 * (loss k q - loss k p) ≤ k * (2 * M * (q - p)) + 999 := by
  obtain ⟨a, b⟩ := ss_diff h0 h1 h2
  have a' := Int.mul_le_mul_of_nonneg_left a hk
  have b' := Int.mul_le_mul_of_nonneg_left b hk
  unfold loss
  rw [Int.mul_assoc k p, Int.mul_assoc k q]
  rw [Int.mul_sub] at b'
  obtain ⟨c, d⟩ := tdiv_diff a'
  exact ⟨c, by omega⟩
/-- The head grows with the flow, but not by too much. -/
theorem head_q {r : Ru} (ok : r.Ok) {z p q u k : Int} (k0 : 0 ≤ k) (k1 : k ≤ r.hi) (u0 : 0 ≤ u) (u1 : u ≤ 1000) (p0 : -1000 ≤ p) (hpq : p ≤ q) (q1 : q ≤ 1000) :
    headS r (z, p) u k ≤ headS r (z, q) u k ∧ headS r (z, q) u k ≤ headS r (z, p) u k + r.n * (q - p) := by
  have ht := ok.th; have hc := ok.cl
  obtain ⟨a, b⟩ := loss_diff (k := k) (M := 1000) k0 (by omega) hpq q1
  obtain ⟨a', b'⟩ := loss_diff (k := r.th) (p := p - u) (q := q - u) (M := 2000) ht.1 (by omega) (by omega) (by omega)
  unfold headS
  refine ⟨by simp only; omega, ?_⟩
  simp only
  by_cases e : p = q
  · subst e; rw [Int.sub_self, Int.mul_zero]; omega
  · rw [show q - u - (p - u) = q - p by omega] at b'
    have h1 : 1 ≤ q - p := by omega
    generalize q - p = d at *
    rw [Int.mul_left_comm] at b b'
    have c1 : k * d ≤ r.hi * d := Int.mul_le_mul_of_nonneg_right k1 (by omega)
    have c3 : (2001 * r.hi + 4001 * r.th + 2000) * d ≤ 1000 * r.n * d := Int.mul_le_mul_of_nonneg_right hc (by omega)
    have c4 : 0 ≤ r.hi * d := Int.mul_nonneg ok.hi.1 (by omega)
    have c5 : 0 ≤ r.th * d := Int.mul_nonneg ht.1 (by omega)
    have e3 : (2001 * r.hi + 4001 * r.th + 2000) * d = 2001 * (r.hi * d) + 4001 * (r.th * d) + 2000 * d := by rw [Int.add_mul, Int.add_mul, Int.mul_assoc, Int.mul_assoc]
    rw [e3, Int.mul_assoc] at c3
    omega
theorem ediv_add_le {x d n : Int} (hn : 1 ≤ n) (hd : 0 ≤ d) : (x + d) / n ≤ x / n + d := by
  have h1 : d ≤ d * n := by
    have := Int.mul_le_mul_of_nonneg_left hn hd
    omega
  have h2 : (x + d) / n ≤ (x + d * n) / n := Int.ediv_le_ediv (by omega) (by omega)
  rw [Int.add_mul_ediv_right _ _ (by omega)] at h2
  exact h2
theorem clamp_mono {f g : Int} (h : f ≤ g) : clampQ f ≤ clampQ g := by unfold clampQ; split <;> split <;> (try split) <;> (try split) <;> omega
theorem clamp_lip {f g d : Int} (hd : 0 ≤ d) (h : f ≤ g + d) : clampQ f ≤ clampQ g + d := by unfold clampQ; split <;> split <;> (try split) <;> (try split) <;> omega
theorem cross_q {r : Ru} (ok : r.Ok) {z p q u k : Int} (k0 : 0 ≤ k) (k1 : k ≤ r.hi) (u0 : 0 ≤ u) (u1 : u ≤ 1000) (p0 : -1000 ≤ p) (hpq : p ≤ q) (q1 : q ≤ 1000) :
    stepQ r (z, p) u k ≤ stepQ r (z, q) u k ∧ (stepS r (z, p) u k).1 ≤ (stepS r (z, q) u k).1 := by
  have hn := ok.n; have ha := ok.a
  obtain ⟨h1, h2⟩ := head_q (z := z) ok k0 k1 u0 u1 p0 hpq q1
  have h3 : headS r (z, q) u k / r.n ≤ (headS r (z, p) u k + (q - p) * r.n) / r.n := Int.ediv_le_ediv (by omega) (by rw [Int.mul_comm (q - p)]; exact h2)
  rw [Int.add_mul_ediv_right _ _ (by omega)] at h3
  have h4 : stepQ r (z, p) u k ≤ stepQ r (z, q) u k := by
    unfold stepQ
    exact clamp_mono (by simp only; omega)
  refine ⟨h4, ?_⟩
  unfold stepS
  simp only
  have := Int.ediv_le_ediv (a := stepQ r (z, p) u k - u) (b := stepQ r (z, q) u k - u) (c := r.a) (by omega) (by omega)
  omega
theorem cross_z {r : Ru} (ok : r.Ok) {y z q u k : Int} (h : y ≤ z) : stepQ r (z, q) u k ≤ stepQ r (y, q) u k ∧ (stepS r (y, q) u k).1 ≤ (stepS r (z, q) u k).1 := by
  have hn := ok.n; have ha := ok.a
  have e : headS r (z, q) u k = headS r (y, q) u k + (z - y) := by unfold headS; simp only; omega
  have h1 : headS r (y, q) u k / r.n ≤ headS r (z, q) u k / r.n := Int.ediv_le_ediv (by omega) (by omega)
  have h2 := ediv_add_le (x := headS r (y, q) u k) (d := z - y) hn.1 (by omega)
  rw [← e] at h2
  have h3 : stepQ r (z, q) u k ≤ stepQ r (y, q) u k := by
    unfold stepQ
    exact clamp_mono (by simp only; omega)
  have h4 : stepQ r (y, q) u k ≤ stepQ r (z, q) u k + (z - y) := by
    unfold stepQ
    exact clamp_lip (by omega) (by simp only; omega)
  refine ⟨h3, ?_⟩
  unfold stepS
  simp only
  have h5 := ediv_add_le (x := stepQ r (z, q) u k - u) (d := z - y) ha.1 (by omega)
  have h6 : (stepQ r (y, q) u k - u) / r.a ≤ (stepQ r (z, q) u k - u + (z - y)) / r.a := Int.ediv_le_ediv (by omega) (by omega)
  omega
end Go.Proofs.Ytlknncjnfgnlaaa.Eng

/-
  SURGE: boxes.
-/
namespace Go.Proofs.Ytlknncjnfgnlaaa.Eng
set_option linter.unusedSimpArgs false
set_option linter.unusedVariables false
structure Bx where
  a : Int
  b : Int
  c : Int
  d : Int
def Bx.enc (b : Bx) : AVal := .agg [.int .i64 b.a, .int .i64 b.b, .int .i64 b.c, .int .i64 b.d]
def rgE (lo hi M : Int) : Int := if win lo (-M) M && win hi (-M) M then (if lo ≤ hi then 0 else 9) else 2
def bxE (b : Bx) : Int := if rgE b.a b.b 100000 = 0 then rgE b.c b.d 1000 else rgE b.a b.b 100000
def imin (x y : Int) : Int := if y < x then y else x
def imax (x y : Int) : Int := if x < y then y else x
def boxS (r : Ru) (b : Bx) (u : Int) : Bx := ⟨imin (stepS r (b.a, b.c) u r.lo).1 (stepS r (b.a, b.c) u r.hi).1, imax (stepS r (b.b, b.d) u r.lo).1 (stepS r (b.b, b.d) u r.hi).1, imin (stepS r (b.b, b.c) u r.lo).2 (stepS r (b.b, b.c) u r.hi).2, imax (stepS r (b.a, b.d) u r.lo).2 (stepS r (b.a, b.d) u r.hi).2⟩
structure BIn (r : Ru) (b : Bx) (u : Int) : Prop where
  ok : r.Ok
  a0 : -1000000000 ≤ b.a
  a1 : b.a ≤ 1000000000
  b0 : -1000000000 ≤ b.b
  b1 : b.b ≤ 1000000000
  c0 : -1000 ≤ b.c
  c1 : b.c ≤ 1000
  d0 : -1000 ≤ b.d
  d1 : b.d ≤ 1000
  u0 : 0 ≤ u
  u1 : u ≤ 1000
def bsE (r : Ru) (b : Bx) (u : Int) : Int := if r.e = 0 then (if bxE b = 0 then ldE u else bxE b) else r.e
structure BxOk (b : Bx) : Prop where
  a0 : -100000 ≤ b.a
  a1 : b.a ≤ 100000
  b0 : -100000 ≤ b.b
  b1 : b.b ≤ 100000
  c0 : -1000 ≤ b.c
  c1 : b.c ≤ 1000
  d0 : -1000 ≤ b.d
  d1 : b.d ≤ 1000
  ab : b.a ≤ b.b
  cd : b.c ≤ b.d
theorem bx_ok {b : Bx} (h : bxE b = 0) : BxOk b := by
  unfold bxE at h
  split at h
  · rename_i h1
    unfold rgE at h h1
    split at h <;> try omega
    rename_i c1
    split at h1 <;> try omega
    rename_i c2
    simp only [Bool.and_eq_true, win_iff] at c1 c2
    split at h <;> try omega
    split at h1 <;> try omega
    constructor <;> omega
  · omega
theorem bsE_in {r : Ru} {b : Bx} {u : Int} (h : bsE r b u = 0) : BIn r b u := by
  unfold bsE at h
  split at h
  · rename_i h0
    split at h
    · rename_i h1
      have k := bx_ok h1
      unfold ldE at h
      split at h <;> try omega
      rename_i c2
      rw [win_iff] at c2
      have a0 := k.a0; have a1 := k.a1; have b0 := k.b0; have b1 := k.b1
      exact ⟨Ru.ok h0, by omega, by omega, by omega, by omega, k.c0, k.c1, k.d0, k.d1, c2.1, c2.2⟩
    · omega
  · omega
theorem corner {r : Ru} {b : Bx} {u : Int} (i : BIn r b u) {z q k : Int} (hz : z = b.a ∨ z = b.b) (hq : q = b.c ∨ q = b.d) (hk : k = r.lo ∨ k = r.hi) : SIn r (z, q) u k := by
  have lo := i.ok.lo; have hi := i.ok.hi
  have a0 := i.a0; have a1 := i.a1; have b0 := i.b0; have b1 := i.b1; have c0 := i.c0; have c1 := i.c1; have d0 := i.d0; have d1 := i.d1
  exact ⟨i.ok, by simp only; omega, by simp only; omega, by simp only; omega, by simp only; omega, i.u0, i.u1, by omega, by omega⟩
section
variable {X : FuncId → Option XFunc} (hX : SuBCode X)
include hX
theorem u36 (b : Bx) (s : Int × Int) (σ : Store) : Run X (.call 36) [b.enc, st s] σ = some (.ret, [.bool (win s.1 b.a b.b && win s.2 b.c b.d)], σ) := by
  have hA := hX.suA
  refine call2 (a := b.enc) (v := .bool (win s.1 b.a b.b && win s.2 b.c b.d)) hX.h36 rfl rfl (by decide) (fun tm hl h0 h1 => ?_) rfl σ
  simp only [AVal.strip, stripL, Bx.enc, st] at h0 h1
  replace hl : tm.length = 25 := hl
  unfold Gives
  cases c : win s.1 b.a b.b <;> simp [xf36, hl, h0, h1, u37 hA, c, Store.empty, Store.new, Store.put, Store.get, look, putL, setR, Store.only, Store.merge, touch, wrote, upTo, isIn, okRec, hits, capsOf, xcaps, stripL, AVal.strip, freeL, AVal.free, fillR, chunks, mkV, List.filter]
theorem u91 (lo hi : Int) {M : Int} (m0 : 0 ≤ M) (m1 : M ≤ 1000000) (σ : Store) : Run X (.call 91) [.agg [.int .i64 lo, .int .i64 hi], .int .i64 M] σ = some (.ret, [.int .i64 (rgE lo hi M)], σ) := by
  have hA := hX.suA
  have w : IntKind.i64.wrap (-M) = -M := by rw [wrap_i64] <;> omega
  refine call2 (v := .int .i64 (rgE lo hi M)) hX.h91 rfl rfl (by decide) (fun tm hl h0 h1 => ?_) rfl σ
  simp only [AVal.strip, stripL] at h0 h1
  replace hl : tm.length = 26 := hl
  unfold Gives
  cases c1 : win lo (-M) M
  · simp [xf91, hl, h0, h1, u37 hA, w, c1, rgE, Store.empty, Store.new, Store.put, Store.get, look, putL, setR, Store.only, Store.merge, touch, wrote, upTo, isIn, okRec, hits, capsOf, xcaps, stripL, AVal.strip, freeL, AVal.free, fillR, chunks, mkV, List.filter]
  cases c2 : win hi (-M) M
  · simp [xf91, hl, h0, h1, u37 hA, w, c1, c2, rgE, Store.empty, Store.new, Store.put, Store.get, look, putL, setR, Store.only, Store.merge, touch, wrote, upTo, isIn, okRec, hits, capsOf, xcaps, stripL, AVal.strip, freeL, AVal.free, fillR, chunks, mkV, List.filter]
  by_cases c3 : lo ≤ hi
  · have : ¬ hi < lo := by omega
    simp [xf91, hl, h0, h1, u37 hA, w, c1, c2, c3, this, rgE, Store.empty, Store.new, Store.put, Store.get, look, putL, setR, Store.only, Store.merge, touch, wrote, upTo, isIn, okRec, hits, capsOf, xcaps, stripL, AVal.strip, freeL, AVal.free, fillR, chunks, mkV, List.filter]
  · have : hi < lo := by omega
    simp [xf91, hl, h0, h1, u37 hA, w, c1, c2, c3, this, rgE, Store.empty, Store.new, Store.put, Store.get, look, putL, setR, Store.only, Store.merge, touch, wrote, upTo, isIn, okRec, hits, capsOf, xcaps, stripL, AVal.strip, freeL, AVal.free, fillR, chunks, mkV, List.filter]
theorem u31 (b : Bx) (σ : Store) : Run X (.call 31) [b.enc] σ = some (.ret, [.int .i64 (bxE b)], σ) := by
  have h1' := u91 hX b.a b.b (M := 100000) (by omega) (by omega)
  have h2' := u91 hX b.c b.d (M := 1000) (by omega) (by omega)
  refine call1 (a := b.enc) (v := .int .i64 (bxE b)) hX.h31 rfl (by decide) (fun tm hl h0 => ?_) rfl σ
  simp only [AVal.strip, stripL, Bx.enc] at h0
  replace hl : tm.length = 13 := hl
  unfold Gives
  by_cases c1 : rgE b.a b.b 100000 = 0 <;> simp [xf31, hl, h0, h1', h2', c1, bxE, Store.empty, Store.new, Store.put, Store.get, look, putL, setR, Store.only, Store.merge, touch, wrote, upTo, isIn, okRec, hits, capsOf, xcaps, stripL, AVal.strip, freeL, AVal.free, fillR, chunks, mkV, List.filter]
omit hX in
theorem rg_eq (lo hi M : Int) : firstNZ [if win lo (-M) M then 0 else 2, if win hi (-M) M then 0 else 2, if decide (lo ≤ hi) then 0 else 9] = rgE lo hi M := by
  unfold rgE
  cases win lo (-M) M <;> cases win hi (-M) M <;> by_cases c : lo ≤ hi <;> simp [firstNZ, c]
theorem u127a (lo hi : Int) (σ : Store) : Run X (.call 127) [.agg [.int .i64 lo, .int .i64 hi], .fn 116 [] []] σ = some (.ret, [.int .i64 (rgE lo hi 100000)], σ) := by
  have hA := hX.suA
  have u3 := fun a b c tok σ => u74 hA [a, b, c] (by simp) tok σ
  simp only [List.map_cons, List.map_nil] at u3
  refine call2 (v := .int .i64 (rgE lo hi 100000)) hX.h127 rfl rfl (by decide) (fun tm hl h0 h1 => ?_) rfl σ
  simp only [AVal.strip, stripL] at h0 h1
  replace hl : tm.length = 21 := hl
  rw [← rg_eq]
  unfold Gives
  simp [xf127, hl, h0, h1, u116 hA, u81 hA, u3, Store.empty, Store.new, Store.put, Store.get, look, putL, setR, Store.only, Store.merge, touch, wrote, upTo, isIn, okRec, hits, capsOf, xcaps, stripL, AVal.strip, freeL, AVal.free, fillR, chunks, mkV, List.filter]
theorem u127b (lo hi : Int) (σ : Store) : Run X (.call 127) [.agg [.int .i64 lo, .int .i64 hi], .fn 117 [] []] σ = some (.ret, [.int .i64 (rgE lo hi 1000)], σ) := by
  have hA := hX.suA
  have u3 := fun a b c tok σ => u74 hA [a, b, c] (by simp) tok σ
  simp only [List.map_cons, List.map_nil] at u3
  refine call2 (v := .int .i64 (rgE lo hi 1000)) hX.h127 rfl rfl (by decide) (fun tm hl h0 h1 => ?_) rfl σ
  simp only [AVal.strip, stripL] at h0 h1
  replace hl : tm.length = 21 := hl
  rw [← rg_eq]
  unfold Gives
  simp [xf127, hl, h0, h1, u117 hA, u81 hA, u3, Store.empty, Store.new, Store.put, Store.get, look, putL, setR, Store.only, Store.merge, touch, wrote, upTo, isIn, okRec, hits, capsOf, xcaps, stripL, AVal.strip, freeL, AVal.free, fillR, chunks, mkV, List.filter]
theorem u87 (b : Bx) (σ : Store) : Run X (.call 87) [b.enc] σ = some (.ret, [.int .i64 (bxE b)], σ) := by
  have hA := hX.suA
  have u2 := fun a b tok σ => u74 hA [a, b] (by simp) tok σ
  simp only [List.map_cons, List.map_nil] at u2
  refine call1 (a := b.enc) (v := .int .i64 (bxE b)) hX.h87 rfl (by decide) (fun tm hl h0 => ?_) rfl σ
  simp only [AVal.strip, stripL, Bx.enc] at h0
  replace hl : tm.length = 11 := hl
  unfold Gives
  by_cases c1 : rgE b.a b.b 100000 = 0 <;> by_cases c2 : rgE b.c b.d 1000 = 0 <;> simp [xf87, hl, h0, u127a hX, u127b hX, u2, c1, c2, bxE, firstNZ, Store.empty, Store.new, Store.put, Store.get, look, putL, setR, Store.only, Store.merge, touch, wrote, upTo, isIn, okRec, hits, capsOf, xcaps, stripL, AVal.strip, freeL, AVal.free, fillR, chunks, mkV, List.filter]
theorem u32 (r : Ru) (b : Bx) (σ : Store) : Run X (.call 32) [r.enc, b.enc] σ = some (.ret, [.int .i64 (if r.e = 0 then bxE b else r.e)], σ) := by
  have hA := hX.suA
  have u2 := fun a b tok σ => u74 hA [a, b] (by simp) tok σ
  simp only [List.map_cons, List.map_nil] at u2
  have u17 := u17 hA r; have u87 := u87 hX b
  simp only [Ru.enc, Bx.enc] at u17 u87
  refine call2 (a := r.enc) (b := b.enc) (v := .int .i64 (if r.e = 0 then bxE b else r.e)) hX.h32 rfl rfl (by decide) (fun tm hl h0 h1 => ?_) rfl σ
  simp only [AVal.strip, stripL, Ru.enc, Bx.enc] at h0 h1
  replace hl : tm.length = 11 := hl
  unfold Gives
  by_cases c1 : r.e = 0 <;> by_cases c2 : bxE b = 0 <;> simp [xf32, hl, h0, h1, u17, u87, u2, c1, c2, firstNZ, Store.empty, Store.new, Store.put, Store.get, look, putL, setR, Store.only, Store.merge, touch, wrote, upTo, isIn, okRec, hits, capsOf, xcaps, stripL, AVal.strip, freeL, AVal.free, fillR, chunks, mkV, List.filter]
set_option maxHeartbeats 4000000 in
theorem u130 {r : Ru} {z q u : Int} (i1 : SIn r (z, q) u r.lo) (i2 : SIn r (z, q) u r.hi) (σ : Store) : Run X (.call 130) [r.ch, .int .i64 z, .int .i64 q, .int .i64 u] σ = some (.ret, [.agg [.int .i64 (stepS r (z, q) u r.lo).1, .int .i64 (stepS r (z, q) u r.lo).2, .int .i64 (stepS r (z, q) u r.hi).1, .int .i64 (stepS r (z, q) u r.hi).2]], σ) := by
  have hA := hX.suA
  have f1 := u78 hA i1; have f2 := u78 hA i2
  simp only [Ru.ch, st] at f1 f2
  refine call4 (a := r.ch) (v := .agg [.int .i64 (stepS r (z, q) u r.lo).1, .int .i64 (stepS r (z, q) u r.lo).2, .int .i64 (stepS r (z, q) u r.hi).1, .int .i64 (stepS r (z, q) u r.hi).2]) hX.h130 rfl rfl rfl rfl (by decide) (fun tm hl h0 h1 h2 h3 => ?_) rfl σ
  simp only [AVal.strip, stripL, Ru.ch] at h0 h1 h2 h3
  replace hl : tm.length = 29 := hl
  unfold Gives
  simp [xf130, xf130l0, Run_loop, hl, h0, h1, h2, h3, f1, f2, wr1, wr2, ix1, Store.empty, Store.new, Store.put, Store.get, look, putL, setR, Store.only, Store.merge, touch, wrote, upTo, isIn, okRec, hits, capsOf, xcaps, stripL, AVal.strip, freeL, AVal.free, fillR, chunks, mkV, List.filter]
set_option maxHeartbeats 4000000 in
theorem u90 {r : Ru} {b : Bx} {u : Int} (i : BIn r b u) (σ : Store) : Run X (.call 90) [r.ch, b.enc, .int .i64 u] σ = some (.ret, [(boxS r b u).enc], σ) := by
  have f1 := u130 hX (corner i (.inl rfl) (.inl rfl) (.inl rfl)) (corner i (.inl rfl) (.inl rfl) (.inr rfl))
  have f2 := u130 hX (corner i (.inr rfl) (.inr rfl) (.inl rfl)) (corner i (.inr rfl) (.inr rfl) (.inr rfl))
  have f3 := u130 hX (corner i (.inr rfl) (.inl rfl) (.inl rfl)) (corner i (.inr rfl) (.inl rfl) (.inr rfl))
  have f4 := u130 hX (corner i (.inl rfl) (.inr rfl) (.inl rfl)) (corner i (.inl rfl) (.inr rfl) (.inr rfl))
  simp only [Ru.ch] at f1 f2 f3 f4
  refine call3 (a := r.ch) (b := b.enc) (v := (boxS r b u).enc) hX.h90 rfl rfl rfl (by decide) (fun tm hl h0 h1 h2 => ?_) rfl σ
  simp only [AVal.strip, stripL, Ru.ch, Bx.enc] at h0 h1 h2
  replace hl : tm.length = 78 := hl
  unfold Gives
  simp [xf90, hl, h0, h1, h2, f1, f2, f3, f4, ix1, xext, xmm, boxS, imin, imax, Bx.enc, Store.empty, Store.new, Store.put, Store.get, look, putL, setR, Store.only, Store.merge, touch, wrote, upTo, isIn, okRec, hits, capsOf, xcaps, stripL, AVal.strip, freeL, AVal.free, fillR, chunks, mkV, List.filter]
set_option maxHeartbeats 8000000 in
theorem u33 {r : Ru} {b : Bx} {u : Int} (i : BIn r b u) (σ : Store) : Run X (.call 33) [r.enc, b.enc, .int .i64 u] σ = some (.ret, [(boxS r b u).enc], σ) := by
  have hA := hX.suA
  have f1 := u22 hA (corner i (.inl rfl) (.inl rfl) (.inl rfl)); have g1 := u22 hA (corner i (.inl rfl) (.inl rfl) (.inr rfl))
  have f2 := u22 hA (corner i (.inr rfl) (.inr rfl) (.inl rfl)); have g2 := u22 hA (corner i (.inr rfl) (.inr rfl) (.inr rfl))
  have f3 := u22 hA (corner i (.inr rfl) (.inl rfl) (.inl rfl)); have g3 := u22 hA (corner i (.inr rfl) (.inl rfl) (.inr rfl))
  have f4 := u22 hA (corner i (.inl rfl) (.inr rfl) (.inl rfl)); have g4 := u22 hA (corner i (.inl rfl) (.inr rfl) (.inr rfl))
  simp only [Ru.enc, st] at f1 f2 f3 f4 g1 g2 g3 g4
  refine call3 (a := r.enc) (b := b.enc) (v := (boxS r b u).enc) hX.h33 rfl rfl rfl (by decide) (fun tm hl h0 h1 h2 => ?_) rfl σ
  simp only [AVal.strip, stripL, Ru.enc, Bx.enc] at h0 h1 h2
  replace hl : tm.length = 119 := hl
  unfold Gives
  simp [xf33, xf33l0, Run_loop, hl, h0, h1, h2, f1, f2, f3, f4, g1, g2, g3, g4, wr1, wr2, ix1, xext, xmm, boxS, imin, imax, Bx.enc, Store.empty, Store.new, Store.put, Store.get, look, putL, setR, Store.only, Store.merge, touch, wrote, upTo, isIn, okRec, hits, capsOf, xcaps, stripL, AVal.strip, freeL, AVal.free, fillR, chunks, mkV, List.filter]
set_option maxHeartbeats 4000000 in
theorem u27 (r : Ru) (b : Bx) (u : Int) (σ : Store) : Run X (.call 27) [r.enc, b.enc, .int .i64 u] σ = some (.ret, [.tup [if bsE r b u = 0 then (boxS r b u).enc else (⟨0, 0, 0, 0⟩ : Bx).enc, .int .i64 (bsE r b u)]], σ) := by
  have hA := hX.suA
  have u3 := fun a b c tok σ => u74 hA [a, b, c] (by simp) tok σ
  simp only [List.map_cons, List.map_nil] at u3
  have u73 := u73 hA r; have u87 := u87 hX b; have u76 := u76 hA u
  have ef : bsE r b u = firstNZ [r.e, bxE b, ldE u] := by
    unfold bsE
    by_cases d1 : r.e = 0 <;> by_cases d2 : bxE b = 0 <;> by_cases d3 : ldE u = 0 <;> simp [d1, d2, d3, firstNZ]
  by_cases c : bsE r b u = 0
  · have u90 := u90 hX (bsE_in c)
    rw [if_pos c]
    have c1 : r.e = 0 := by unfold bsE at c; split at c <;> assumption
    rw [if_pos c1] at u73
    simp only [Ru.enc, Ru.ch, Bx.enc] at u73 u87 u90
    rw [c]
    rw [ef] at c
    refine call3 (a := r.enc) (b := b.enc) (v := .tup [(boxS r b u).enc, .int .i64 0]) hX.h27 rfl rfl rfl (by decide) (fun tm hl h0 h1 h2 => ?_) rfl σ
    simp only [AVal.strip, stripL, Ru.enc, Bx.enc] at h0 h1 h2
    replace hl : tm.length = 31 := hl
    unfold Gives
    simp [xf27, hl, h0, h1, h2, u73, u87, u76, u90, u3, c, Bx.enc, xresult, xrets, Store.empty, Store.new, Store.put, Store.get, look, putL, setR, Store.only, Store.merge, touch, wrote, upTo, isIn, okRec, hits, capsOf, xcaps, stripL, AVal.strip, freeL, AVal.free, fillR, chunks, mkV, List.filter]
  · rw [if_neg c, ef]
    rw [ef] at c
    by_cases c1 : r.e = 0
    · rw [if_pos c1] at u73
      simp only [Ru.enc, Ru.ch, Bx.enc] at u73 u87
      refine call3 (a := r.enc) (b := b.enc) (v := .tup [(⟨0, 0, 0, 0⟩ : Bx).enc, .int .i64 (firstNZ [r.e, bxE b, ldE u])]) hX.h27 rfl rfl rfl (by decide) (fun tm hl h0 h1 h2 => ?_) rfl σ
      simp only [AVal.strip, stripL, Ru.enc, Bx.enc] at h0 h1 h2
      replace hl : tm.length = 31 := hl
      unfold Gives
      simp [xf27, hl, h0, h1, h2, u73, u87, u76, u3, c, Bx.enc, xresult, xrets, Store.empty, Store.new, Store.put, Store.get, look, putL, setR, Store.only, Store.merge, touch, wrote, upTo, isIn, okRec, hits, capsOf, xcaps, stripL, AVal.strip, freeL, AVal.free, fillR, chunks, mkV, List.filter]
    · rw [if_neg c1] at u73
      simp only [Ru.enc, ch0, Bx.enc] at u73 u87
      refine call3 (a := r.enc) (b := b.enc) (v := .tup [(⟨0, 0, 0, 0⟩ : Bx).enc, .int .i64 (firstNZ [r.e, bxE b, ldE u])]) hX.h27 rfl rfl rfl (by decide) (fun tm hl h0 h1 h2 => ?_) rfl σ
      simp only [AVal.strip, stripL, Ru.enc, Bx.enc] at h0 h1 h2
      replace hl : tm.length = 31 := hl
      unfold Gives
      simp [xf27, hl, h0, h1, h2, u73, u87, u76, u3, c, Bx.enc, xresult, xrets, Store.empty, Store.new, Store.put, Store.get, look, putL, setR, Store.only, Store.merge, touch, wrote, upTo, isIn, okRec, hits, capsOf, xcaps, stripL, AVal.strip, freeL, AVal.free, fillR, chunks, mkV, List.filter]
end
end Go.Proofs.Ytlknncjnfgnlaaa.Eng

/-
  SURGE: boxes enclose.
-/
namespace Go.Proofs.Ytlknncjnfgnlaaa.Eng
set_option linter.unusedSimpArgs false
set_option linter.unusedVariables false
/-- A state lies in a box. -/
def InB (b : Bx) (s : Int × Int) : Prop := b.a ≤ s.1 ∧ s.1 ≤ b.b ∧ b.c ≤ s.2 ∧ s.2 ≤ b.d
/-- A box lies in a box. -/
def SubB (d c : Bx) : Prop := c.a ≤ d.a ∧ d.b ≤ c.b ∧ c.c ≤ d.c ∧ d.d ≤ c.d
theorem loss_k {k k' q : Int} (h : k ≤ k') : (0 ≤ q → loss k q ≤ loss k' q) ∧ (q ≤ 0 → loss k' q ≤ loss k q) := by
  have hs : 0 ≤ sq q := by unfold sq; split <;> omega
  constructor
  · intro hq
    have h1 : k * (q * sq q) ≤ k' * (q * sq q) := Int.mul_le_mul_of_nonneg_right h (Int.mul_nonneg hq hs)
    unfold loss
    rw [Int.mul_assoc, Int.mul_assoc]
    exact (tdiv_diff h1).1
  · intro hq
    have h0 : 0 ≤ -(q * sq q) := by rw [← Int.neg_mul]; exact Int.mul_nonneg (by omega) hs
    have h1 : k * -(q * sq q) ≤ k' * -(q * sq q) := Int.mul_le_mul_of_nonneg_right h h0
    rw [Int.mul_neg, Int.mul_neg] at h1
    unfold loss
    rw [Int.mul_assoc, Int.mul_assoc]
    exact (tdiv_diff (by omega)).1
theorem step_head {r : Ru} (ok : r.Ok) {s : Int × Int} {u k k' : Int} (h : loss k s.2 ≤ loss k' s.2) : stepQ r s u k' ≤ stepQ r s u k ∧ (stepS r s u k').1 ≤ (stepS r s u k).1 := by
  have hn := ok.n; have ha := ok.a
  have h1 : headS r s u k ≤ headS r s u k' := by unfold headS; omega
  have h2 : headS r s u k / r.n ≤ headS r s u k' / r.n := Int.ediv_le_ediv (by omega) h1
  have h3 : stepQ r s u k' ≤ stepQ r s u k := by unfold stepQ; exact clamp_mono (by omega)
  refine ⟨h3, ?_⟩
  unfold stepS
  simp only
  have := Int.ediv_le_ediv (a := stepQ r s u k' - u) (b := stepQ r s u k - u) (c := r.a) (by omega) (by omega)
  omega
/-- A friction between both ends gives a state between theirs. -/
theorem step_k {r : Ru} (ok : r.Ok) {s : Int × Int} {u k : Int} (k0 : r.lo ≤ k) (k1 : k ≤ r.hi) :
    (imin (stepS r s u r.lo).1 (stepS r s u r.hi).1 ≤ (stepS r s u k).1 ∧ (stepS r s u k).1 ≤ imax (stepS r s u r.lo).1 (stepS r s u r.hi).1) ∧
    (imin (stepS r s u r.lo).2 (stepS r s u r.hi).2 ≤ (stepS r s u k).2 ∧ (stepS r s u k).2 ≤ imax (stepS r s u r.lo).2 (stepS r s u r.hi).2) := by
  have e : ∀ k, (stepS r s u k).2 = stepQ r s u k := fun _ => rfl
  rw [e, e, e]
  rcases Int.le_total 0 s.2 with hq | hq
  · obtain ⟨a1, a2⟩ := step_head ok (u := u) ((loss_k k0).1 hq)
    obtain ⟨b1, b2⟩ := step_head ok (u := u) ((loss_k k1).1 hq)
    unfold imin imax
    refine ⟨⟨?_, ?_⟩, ⟨?_, ?_⟩⟩ <;> split <;> omega
  · obtain ⟨a1, a2⟩ := step_head ok (u := u) ((loss_k k0).2 hq)
    obtain ⟨b1, b2⟩ := step_head ok (u := u) ((loss_k k1).2 hq)
    unfold imin imax
    refine ⟨⟨?_, ?_⟩, ⟨?_, ?_⟩⟩ <;> split <;> omega
theorem lev_mono {r : Ru} (ok : r.Ok) {z z' q q' u k : Int} (k0 : 0 ≤ k) (k1 : k ≤ r.hi) (u0 : 0 ≤ u) (u1 : u ≤ 1000) (hz : z ≤ z') (p0 : -1000 ≤ q) (hq : q ≤ q') (q1 : q' ≤ 1000) : (stepS r (z, q) u k).1 ≤ (stepS r (z', q') u k).1 := by
  have h1 := (cross_z ok (q := q) (u := u) (k := k) hz).2
  have h2 := (cross_q ok (z := z') (k := k) k0 k1 u0 u1 p0 hq q1).2
  omega
theorem flow_mono {r : Ru} (ok : r.Ok) {z z' q q' u k : Int} (k0 : 0 ≤ k) (k1 : k ≤ r.hi) (u0 : 0 ≤ u) (u1 : u ≤ 1000) (hz : z' ≤ z) (p0 : -1000 ≤ q) (hq : q ≤ q') (q1 : q' ≤ 1000) : (stepS r (z, q) u k).2 ≤ (stepS r (z', q') u k).2 := by
  have h1 := (cross_z ok (q := q) (u := u) (k := k) hz).1
  have h2 := (cross_q ok (z := z') (k := k) k0 k1 u0 u1 p0 hq q1).1
  show stepQ r (z, q) u k ≤ stepQ r (z', q') u k
  omega
theorem imin_mono {a b c d : Int} (h : a ≤ c) (h' : b ≤ d) : imin a b ≤ imin c d := by unfold imin; split <;> split <;> omega
theorem imax_mono {a b c d : Int} (h : a ≤ c) (h' : b ≤ d) : imax a b ≤ imax c d := by unfold imax; split <;> split <;> omega
/-- The state after a step lies in the step of a box. -/
theorem box_in {r : Ru} {b : Bx} {s : Int × Int} {u k : Int} (i : BIn r b u) (h : InB b s) (k0 : r.lo ≤ k) (k1 : k ≤ r.hi) : InB (boxS r b u) (stepS r s u k) := by
  obtain ⟨z, q⟩ := s
  obtain ⟨h1, h2, h3, h4⟩ := h
  simp only at h1 h2 h3 h4
  have c0 := i.c0; have d1 := i.d1; have u0 := i.u0; have u1 := i.u1; have lo := i.ok.lo; have hi := i.ok.hi; have le := i.ok.le
  obtain ⟨⟨m1, m2⟩, ⟨m3, m4⟩⟩ := step_k i.ok (s := (z, q)) (u := u) k0 k1
  have ll : ∀ k, 0 ≤ k → k ≤ r.hi → (stepS r (b.a, b.c) u k).1 ≤ (stepS r (z, q) u k).1 := fun k e0 e1 => lev_mono i.ok e0 e1 u0 u1 h1 c0 h3 (by omega)
  have lh : ∀ k, 0 ≤ k → k ≤ r.hi → (stepS r (z, q) u k).1 ≤ (stepS r (b.b, b.d) u k).1 := fun k e0 e1 => lev_mono i.ok e0 e1 u0 u1 h2 (by omega) h4 d1
  have fl : ∀ k, 0 ≤ k → k ≤ r.hi → (stepS r (b.b, b.c) u k).2 ≤ (stepS r (z, q) u k).2 := fun k e0 e1 => flow_mono i.ok e0 e1 u0 u1 h2 c0 h3 (by omega)
  have fh : ∀ k, 0 ≤ k → k ≤ r.hi → (stepS r (z, q) u k).2 ≤ (stepS r (b.a, b.d) u k).2 := fun k e0 e1 => flow_mono i.ok e0 e1 u0 u1 h1 (by omega) h4 d1
  have x1 := imin_mono (ll r.lo lo.1 le) (ll r.hi hi.1 (Int.le_refl _))
  have x2 := imax_mono (lh r.lo lo.1 le) (lh r.hi hi.1 (Int.le_refl _))
  have x3 := imin_mono (fl r.lo lo.1 le) (fl r.hi hi.1 (Int.le_refl _))
  have x4 := imax_mono (fh r.lo lo.1 le) (fh r.hi hi.1 (Int.le_refl _))
  unfold InB boxS
  simp only
  omega
/-- A smaller box has a step that lies in it. -/
theorem box_sub {r : Ru} {b d : Bx} {u : Int} (i : BIn r b u) (j : BIn r d u) (h : SubB d b) : SubB (boxS r d u) (boxS r b u) := by
  obtain ⟨h1, h2, h3, h4⟩ := h
  have c0 := i.c0; have d1 := i.d1; have u0 := i.u0; have u1 := i.u1; have lo := i.ok.lo; have hi := i.ok.hi; have le := i.ok.le
  have c0' := j.c0; have d1' := j.d1; have c1' := j.c1; have d0' := j.d0
  have ll : ∀ k, 0 ≤ k → k ≤ r.hi → (stepS r (b.a, b.c) u k).1 ≤ (stepS r (d.a, d.c) u k).1 := fun k e0 e1 => lev_mono i.ok e0 e1 u0 u1 h1 c0 h3 c1'
  have lh : ∀ k, 0 ≤ k → k ≤ r.hi → (stepS r (d.b, d.d) u k).1 ≤ (stepS r (b.b, b.d) u k).1 := fun k e0 e1 => lev_mono i.ok e0 e1 u0 u1 h2 d0' h4 d1
  have fl : ∀ k, 0 ≤ k → k ≤ r.hi → (stepS r (b.b, b.c) u k).2 ≤ (stepS r (d.b, d.c) u k).2 := fun k e0 e1 => flow_mono i.ok e0 e1 u0 u1 h2 c0 h3 c1'
  have fh : ∀ k, 0 ≤ k → k ≤ r.hi → (stepS r (d.a, d.d) u k).2 ≤ (stepS r (b.a, b.d) u k).2 := fun k e0 e1 => flow_mono i.ok e0 e1 u0 u1 h1 d0' h4 d1
  have x1 := imin_mono (ll r.lo lo.1 le) (ll r.hi hi.1 (Int.le_refl _))
  have x2 := imax_mono (lh r.lo lo.1 le) (lh r.hi hi.1 (Int.le_refl _))
  have x3 := imin_mono (fl r.lo lo.1 le) (fl r.hi hi.1 (Int.le_refl _))
  have x4 := imax_mono (fh r.lo lo.1 le) (fh r.hi hi.1 (Int.le_refl _))
  unfold SubB boxS
  simp only
  omega
theorem box_flow (r : Ru) (b : Bx) (u : Int) : -1000 ≤ (boxS r b u).c ∧ (boxS r b u).d ≤ 1000 := by
  have e : ∀ s k, (stepS r s u k).2 = stepQ r s u k := fun _ _ => rfl
  have c : ∀ s k, -1000 ≤ stepQ r s u k ∧ stepQ r s u k ≤ 1000 := fun s k => clampQ_in _
  unfold boxS imin imax
  simp only [e]
  have c1 := c (b.b, b.c) r.lo; have c2 := c (b.b, b.c) r.hi; have c3 := c (b.a, b.d) r.lo; have c4 := c (b.a, b.d) r.hi
  constructor <;> split <;> omega
theorem flow_in (r : Ru) (s : Int × Int) (u k : Int) : -1000 ≤ (stepS r s u k).2 ∧ (stepS r s u k).2 ≤ 1000 := clampQ_in _
theorem stE_of {s : Int × Int} (h : -100000 ≤ s.1 ∧ s.1 ≤ 100000) (h' : -1000 ≤ s.2 ∧ s.2 ≤ 1000) : stE s = 0 := by
  unfold stE; rw [if_pos]; simp only [Bool.and_eq_true, win_iff]; omega
theorem bxE_of {b : Bx} (k : BxOk b) : bxE b = 0 := by
  have a0 := k.a0; have a1 := k.a1; have b0 := k.b0; have b1 := k.b1; have c0 := k.c0; have c1 := k.c1; have d0 := k.d0; have d1 := k.d1; have ab := k.ab; have cd := k.cd
  have h1 : rgE b.a b.b 100000 = 0 := by
    unfold rgE; rw [if_pos, if_pos ab]; simp only [Bool.and_eq_true, win_iff]; omega
  have h2 : rgE b.c b.d 1000 = 0 := by
    unfold rgE; rw [if_pos, if_pos cd]; simp only [Bool.and_eq_true, win_iff]; omega
  unfold bxE; rw [if_pos h1, h2]
theorem bin_of {r : Ru} (ok : r.Ok) {b : Bx} (k : BxOk b) {u : Int} (u0 : 0 ≤ u) (u1 : u ≤ 1000) : BIn r b u := by
  have a0 := k.a0; have a1 := k.a1; have b0 := k.b0; have b1 := k.b1
  exact ⟨ok, by omega, by omega, by omega, by omega, k.c0, k.c1, k.d0, k.d1, u0, u1⟩
/-- How the run and both boxes stand. -/
structure EnI (b sm : Bx) (s : Int × Int) : Prop where
  kb : BxOk b
  ks : BxOk sm
  is : InB sm s
  sub : SubB sm b
structure EnS (r : Ru) (b sm : Bx) (s : Int × Int) (u k : Int) : Prop where
  i1 : InB (boxS r b u) (stepS r s u k)
  i2 : InB (boxS r sm u) (stepS r s u k)
  sub : SubB (boxS r sm u) (boxS r b u)
  go : -100000 ≤ (boxS r b u).a → (boxS r b u).b ≤ 100000 → EnI (boxS r b u) (boxS r sm u) (stepS r s u k)
theorem en_step {r : Ru} (ok : r.Ok) {b sm : Bx} {s : Int × Int} (h : EnI b sm s) {u k : Int} (u0 : 0 ≤ u) (u1 : u ≤ 1000) (k0 : r.lo ≤ k) (k1 : k ≤ r.hi) : EnS r b sm s u k := by
  have i := bin_of ok h.kb u0 u1; have j := bin_of ok h.ks u0 u1
  have hb : InB b s := by
    obtain ⟨a1, a2, a3, a4⟩ := h.is; obtain ⟨b1, b2, b3, b4⟩ := h.sub
    exact ⟨by omega, by omega, by omega, by omega⟩
  have i1 := box_in i hb k0 k1
  have i2 := box_in j h.is k0 k1
  have sub := box_sub i j h.sub
  refine ⟨i1, i2, sub, fun g0 g1 => ?_⟩
  have f1 := box_flow r b u; have f2 := box_flow r sm u
  obtain ⟨a1, a2, a3, a4⟩ := i2; obtain ⟨b1, b2, b3, b4⟩ := sub; obtain ⟨c1, c2, c3, c4⟩ := i1
  exact ⟨by constructor <;> omega, by constructor <;> omega, ⟨a1, a2, a3, a4⟩, ⟨b1, b2, b3, b4⟩⟩
end Go.Proofs.Ytlknncjnfgnlaaa.Eng

/-
  SURGE: the law of runs that stay in boxes.
-/
namespace Go.Proofs.Ytlknncjnfgnlaaa.Eng
set_option linter.unusedSimpArgs false
set_option linter.unusedVariables false
def sts (L : List (Int × Int)) : List AVal := L.map st
def lat (L : List (Int × Int)) (i : Nat) : Int × Int := L.getD i (0, 0)
def SL (L : List (Int × Int)) (w : AVal) : Prop := (L = [] ∧ w = .nils) ∨ w = .list 2 (sts L) none
theorem sts_free (L : List (Int × Int)) : freeL (sts L) = true := by
  induction L with
  | nil => rfl
  | cons e l ih =>
    show freeL (st e :: sts l) = true
    simp [freeL, AVal.free, st, ih]
theorem SL.strip {L : List (Int × Int)} {w : AVal} (h : SL L w) : w.strip = w := by
  rcases h with ⟨_, rfl⟩ | rfl
  · rfl
  · simp [AVal.strip, freeL_strip (sts_free L)]
theorem SL.free {L : List (Int × Int)} {w : AVal} (h : SL L w) : w.free = true := by
  rcases h with ⟨_, rfl⟩ | rfl
  · rfl
  · simp [AVal.free, sts_free L]
theorem SL.xlen {L : List (Int × Int)} {w : AVal} (h : SL L w) : Go.Proofs.Ytlknncjnfgnlaaa.Eng.xlen w = some (.int .i64 L.length) := by
  rcases h with ⟨rfl, rfl⟩ | rfl
  · rfl
  · simp [Go.Proofs.Ytlknncjnfgnlaaa.Eng.xlen, sts]
theorem SL.list {L : List (Int × Int)} {w : AVal} (h : SL L w) (h0 : 0 < L.length) : w = .list 2 (sts L) none := by
  rcases h with ⟨rfl, rfl⟩ | rfl
  · simp at h0
  · rfl
theorem sts_get {L : List (Int × Int)} {i : Nat} (h : i < L.length) : (sts L)[i]? = some (.agg [.int .i64 (lat L i).1, .int .i64 (lat L i).2]) := by
  simp [sts, lat, h, st]
/-- Does the loop come to its end? -/
def ru6 (r : Ru) (L : List (Int × Int)) : Nat → Nat → Bx → Bx → Int × Int → Bool
  | 0, _, _, _, _ => true
  | k + 1, i, b, sm, s => if ldE (lat L i).1 ≠ 0 then false else if frE r (lat L i).2 ≠ 0 then false else
    if stE (stepS r s (lat L i).1 (lat L i).2) ≠ 0 then false else if bxE (boxS r b (lat L i).1) ≠ 0 then false else if bxE (boxS r sm (lat L i).1) ≠ 0 then false else
    ru6 r L k (i + 1) (boxS r b (lat L i).1) (boxS r sm (lat L i).1) (stepS r s (lat L i).1 (lat L i).2)
def exB (b : Bool) : XExit := if b then .exit 0 else .ret
def I6 (r : Ru) (w : AVal) (b sm : Bx) (s : Int × Int) (t : Nat) (tm : List AVal) (σ : Store) : Prop :=
  tm.length = 212 ∧ XOpd.eval tm (.t 2) = w ∧ XOpd.eval tm (.t 3) = .ptr 0 0 ∧ XOpd.eval tm (.t 7) = .ptr 2 0 ∧ XOpd.eval tm (.t 8) = .ptr 3 0 ∧ XOpd.eval tm (.t 9) = .ptr 4 0 ∧ XOpd.eval tm (.t 10) = .int .i64 t ∧
  σ.get 0 = some (.cells [.int .i64 r.n, .int .i64 r.a, .int .i64 r.lo, .int .i64 r.hi, .int .i64 r.th]) ∧ σ.get 2 = some (.cells [.int .i64 b.a, .int .i64 b.b, .int .i64 b.c, .int .i64 b.d]) ∧ σ.get 3 = some (.cells [.int .i64 s.1, .int .i64 s.2]) ∧ σ.get 4 = some (.cells [.int .i64 sm.a, .int .i64 sm.b, .int .i64 sm.c, .int .i64 sm.d]) ∧ 5 ≤ σ.next
section
variable {X : FuncId → Option XFunc} (hX : SuBCode X)
include hX
set_option maxHeartbeats 16000000 in
theorem loop6 {r : Ru} (he : r.e = 0) {L : List (Int × Int)} {w : AVal} (hw : SL L w) (hn : L.length ≤ 1000000) : ∀ (k i : Nat), i + k = L.length → ∀ (b sm : Bx) (s : Int × Int), EnI b sm s → ∀ (tm : List AVal) (σ : Store), I6 r w b sm s i tm σ →
    Ends (Run X (.code (.loop xf6l0)) tm σ) (exB (ru6 r L k i b sm s)) fun tm' _ => tm'.length = 212 ∧ (ru6 r L k i b sm s = false → XOpd.eval tm' (.t 6) = .bool true)
  | 0, i, hk, b, sm, s, en, tm, σ, ⟨hl, h2, h3, h7, h8, h9, h10, g0, g2, g3, g4, nx⟩ => by
    have hi : i = L.length := by omega
    subst hi
    rw [Run_loop]
    simp [xf6l0, hl, h2, h10, hw.xlen, ru6, exB]
  | k + 1, i, hk, b, sm, s, en, tm, σ, ⟨hl, h2, h3, h7, h8, h9, h10, g0, g2, g3, g4, nx⟩ => by
    have hA := hX.suA
    have hi : i < L.length := by omega
    have ok := Ru.ok he
    obtain ⟨N, hN⟩ : ∃ N, σ.next = N + 5 := ⟨σ.next - 5, by omega⟩
    have hiw : IntKind.i64.wrap ((i : Int) + 1) = ((i + 1 : Nat) : Int) := by rw [wrap_i64] <;> omega
    have hx := hw.xlen
    have hwl := hw.list (by omega)
    subst hwl
    have hget := sts_get hi
    simp only [ru6]
    generalize (lat L i) = p at *
    obtain ⟨u, q⟩ := p
    simp only at hget ⊢
    have u20 := u20 hA u; have u21 := u21 hA r q
    simp only [Ru.enc] at u21
    have fS := sts_free L
    by_cases c1 : ldE u = 0
    case neg =>
      rw [if_pos c1, Run_loop]
      simp [xf6l0, exB, hl, h2, h3, h7, h8, h9, h10, g0, g2, g3, g4, hN, hi, hx, hget, u20, c1, AVal.cells, fS, put_next, new_next, Store.get_new, Store.get_put, put_get, setR, only_get, merge_get', only_next, merge_next, upTo_self, upTo_one, merge_only, touch, wrote, isIn, okRec, hits, capsOf, xcaps, stripL, AVal.strip, freeL, AVal.free, fillR, chunks, mkV]
      done
    rw [if_neg (by simpa using c1)]
    by_cases c2 : frE r q = 0
    case neg =>
      rw [if_pos c2, Run_loop]
      simp [xf6l0, exB, hl, h2, h3, h7, h8, h9, h10, g0, g2, g3, g4, hN, hi, hx, hget, u20, u21, c1, c2, AVal.cells, fS, put_next, new_next, Store.get_new, Store.get_put, put_get, setR, only_get, merge_get', only_next, merge_next, upTo_self, upTo_one, merge_only, touch, wrote, isIn, okRec, hits, capsOf, xcaps, stripL, AVal.strip, freeL, AVal.free, fillR, chunks, mkV]
      done
    rw [if_neg (by simpa using c2)]
    have hu : 0 ≤ u ∧ u ≤ 1000 := by
      unfold ldE at c1; split at c1 <;> try omega
      rename_i d; exact win_iff.1 d
    have hq : r.lo ≤ q ∧ q ≤ r.hi := by
      unfold frE at c2; split at c2 <;> try omega
      rename_i d; exact win_iff.1 d
    have es := en_step ok en hu.1 hu.2 hq.1 hq.2
    have kb := bxE_of en.kb; have ks := bxE_of en.ks
    have i1 := en.is; have sb := en.sub
    have bb := en.kb
    have es0 : stE s = 0 := by
      obtain ⟨a1, a2, a3, a4⟩ := i1; obtain ⟨b1, b2, b3, b4⟩ := sb
      have a0 := bb.a0; have e1 := bb.b1; have c0 := bb.c0; have d1 := bb.d1
      exact stE_of ⟨by omega, by omega⟩ ⟨by omega, by omega⟩
    have p1 : stpE r s u q = 0 := by unfold stpE; simp only [he, es0, c1, c2, if_true]
    have p2 : bsE r b u = 0 := by unfold bsE; simp only [he, kb, c1, if_true]
    have p3 : bsE r sm u = 0 := by unfold bsE; simp only [he, ks, c1, if_true]
    have y1 := u15 hA r s u q; have y2 := u27 hX r b u; have y3 := u27 hX r sm u
    rw [p1, if_pos rfl] at y1
    rw [p2, if_pos rfl] at y2
    rw [p3, if_pos rfl] at y3
    obtain ⟨j1, j2, j3, go⟩ := es
    have fl := box_flow r b u; have fm := box_flow r sm u; have fy := flow_in r s u q
    have ihh := loop6 he (L := L) hw hn k (i + 1) (by omega)
    generalize stepS r s u q = y at *
    generalize boxS r b u = c at *
    generalize boxS r sm u = d at *
    have v1 := u36 hX c y; have v2 := u36 hX d y; have v3 := u18 hA y; have v4 := u31 hX c; have v5 := u31 hX d
    have n1 : win y.1 c.a c.b = true := win_iff.2 ⟨j1.1, j1.2.1⟩
    have n2 : win y.2 c.c c.d = true := win_iff.2 ⟨j1.2.2.1, j1.2.2.2⟩
    have n3 : win y.1 d.a d.b = true := win_iff.2 ⟨j2.1, j2.2.1⟩
    have n4 : win y.2 d.c d.d = true := win_iff.2 ⟨j2.2.2.1, j2.2.2.2⟩
    rw [n1, n2] at v1
    rw [n3, n4] at v2
    simp only [Ru.enc, Bx.enc, st] at y1 y2 y3 v1 v2 v3 v4 v5
    obtain ⟨s1, s2, s3, s4⟩ := j3
    have l1 : ¬ d.a < c.a := by omega
    have l2 : ¬ c.b < d.b := by omega
    have l3 : ¬ d.c < c.c := by omega
    have l4 : ¬ c.d < d.d := by omega
    have wa := u37 hA c.a (-100000) 100000; have wb := u37 hA c.b (-100000) 100000
    by_cases e1 : stE y = 0 ∧ bxE c = 0 ∧ bxE d = 0
    · obtain ⟨e1, e2, e3⟩ := e1
      rw [if_neg (by simpa using e1), if_neg (by simpa using e2), if_neg (by simpa using e3)]
      have kc := bx_ok e2
      have en' := go kc.a0 kc.b1
      have key : Ends (Run X (.code xf6l0) tm σ) .normal fun tm' σ' => I6 r (.list 2 (sts L) none) c d y (i + 1) tm' σ' := by
        simp [xf6l0, I6, hl, h2, h3, h7, h8, h9, h10, g0, g2, g3, g4, hN, hi, hx, hget, u20, u21, c1, c2, y1, y2, y3, v1, v2, v3, v4, v5, l1, l2, l3, l4, e1, e2, e3, hiw, AVal.cells, fS, put_next, new_next, Store.get_new, Store.get_put, put_get, setR, only_get, merge_get', only_next, merge_next, upTo_self, upTo_one, merge_only, touch, wrote, isIn, okRec, hits, capsOf, xcaps, stripL, AVal.strip, freeL, AVal.free, fillR, chunks, mkV]
      obtain ⟨o1, o2⟩ := out_of key
      rw [Run_loop, o1, thenC_normal]
      exact ihh _ _ _ en' _ _ o2
    · have hwin : (win c.a (-100000) 100000 && win c.b (-100000) 100000) = false := by
        cases hh : (win c.a (-100000) 100000 && win c.b (-100000) 100000) with
        | false => rfl
        | true =>
          exfalso
          simp only [Bool.and_eq_true, win_iff] at hh
          have en' := go hh.1.1 hh.2.2
          refine e1 ⟨?_, bxE_of en'.kb, bxE_of en'.ks⟩
          obtain ⟨a1, a2, a3, a4⟩ := j1
          exact stE_of ⟨by omega, by omega⟩ fy
      have hf : (if stE y ≠ 0 then false else if bxE c ≠ 0 then false else if bxE d ≠ 0 then false else ru6 r L k (i + 1) c d y) = false := by
        by_cases e2 : stE y = 0
        · by_cases e3 : bxE c = 0
          · by_cases e4 : bxE d = 0
            · exact absurd ⟨e2, e3, e4⟩ e1
            · simp [e2, e3, e4]
          · simp [e2, e3]
        · simp [e2]
      rw [hf, Run_loop]
      cases z1 : win c.a (-100000) 100000
      all_goals rw [z1] at wa hwin
      · by_cases e2 : stE y = 0
        · by_cases e3 : bxE c = 0
          · have e4 : ¬ bxE d = 0 := fun h => e1 ⟨e2, e3, h⟩
            simp [xf6l0, exB, hl, h2, h3, h7, h8, h9, h10, g0, g2, g3, g4, hN, hi, hx, hget, u20, u21, c1, c2, y1, y2, y3, v1, v2, v3, v4, v5, l1, l2, l3, l4, e2, e3, e4, wa, AVal.cells, fS, put_next, new_next, Store.get_new, Store.get_put, put_get, setR, only_get, merge_get', only_next, merge_next, upTo_self, upTo_one, merge_only, touch, wrote, isIn, okRec, hits, capsOf, xcaps, stripL, AVal.strip, freeL, AVal.free, fillR, chunks, mkV]
          · simp [xf6l0, exB, hl, h2, h3, h7, h8, h9, h10, g0, g2, g3, g4, hN, hi, hx, hget, u20, u21, c1, c2, y1, y2, y3, v1, v2, v3, v4, v5, l1, l2, l3, l4, e2, e3, wa, AVal.cells, fS, put_next, new_next, Store.get_new, Store.get_put, put_get, setR, only_get, merge_get', only_next, merge_next, upTo_self, upTo_one, merge_only, touch, wrote, isIn, okRec, hits, capsOf, xcaps, stripL, AVal.strip, freeL, AVal.free, fillR, chunks, mkV]
        · simp [xf6l0, exB, hl, h2, h3, h7, h8, h9, h10, g0, g2, g3, g4, hN, hi, hx, hget, u20, u21, c1, c2, y1, y2, y3, v1, v2, v3, v4, v5, l1, l2, l3, l4, e2, wa, AVal.cells, fS, put_next, new_next, Store.get_new, Store.get_put, put_get, setR, only_get, merge_get', only_next, merge_next, upTo_self, upTo_one, merge_only, touch, wrote, isIn, okRec, hits, capsOf, xcaps, stripL, AVal.strip, freeL, AVal.free, fillR, chunks, mkV]
      · rw [Bool.true_and] at hwin
        rw [hwin] at wb
        by_cases e2 : stE y = 0
        · by_cases e3 : bxE c = 0
          · have e4 : ¬ bxE d = 0 := fun h => e1 ⟨e2, e3, h⟩
            simp [xf6l0, exB, hl, h2, h3, h7, h8, h9, h10, g0, g2, g3, g4, hN, hi, hx, hget, u20, u21, c1, c2, y1, y2, y3, v1, v2, v3, v4, v5, l1, l2, l3, l4, e2, e3, e4, wa, wb, AVal.cells, fS, put_next, new_next, Store.get_new, Store.get_put, put_get, setR, only_get, merge_get', only_next, merge_next, upTo_self, upTo_one, merge_only, touch, wrote, isIn, okRec, hits, capsOf, xcaps, stripL, AVal.strip, freeL, AVal.free, fillR, chunks, mkV]
          · simp [xf6l0, exB, hl, h2, h3, h7, h8, h9, h10, g0, g2, g3, g4, hN, hi, hx, hget, u20, u21, c1, c2, y1, y2, y3, v1, v2, v3, v4, v5, l1, l2, l3, l4, e2, e3, wa, wb, AVal.cells, fS, put_next, new_next, Store.get_new, Store.get_put, put_get, setR, only_get, merge_get', only_next, merge_next, upTo_self, upTo_one, merge_only, touch, wrote, isIn, okRec, hits, capsOf, xcaps, stripL, AVal.strip, freeL, AVal.free, fillR, chunks, mkV]
        · simp [xf6l0, exB, hl, h2, h3, h7, h8, h9, h10, g0, g2, g3, g4, hN, hi, hx, hget, u20, u21, c1, c2, y1, y2, y3, v1, v2, v3, v4, v5, l1, l2, l3, l4, e2, wa, wb, AVal.cells, fS, put_next, new_next, Store.get_new, Store.get_put, put_get, setR, only_get, merge_get', only_next, merge_next, upTo_self, upTo_one, merge_only, touch, wrote, isIn, okRec, hits, capsOf, xcaps, stripL, AVal.strip, freeL, AVal.free, fillR, chunks, mkV]
end
end Go.Proofs.Ytlknncjnfgnlaaa.Eng

/-
  SURGE: lists of boxes from a loop over a function.
-/
namespace Go.Proofs.Ytlknncjnfgnlaaa.Eng
set_option linter.unusedSimpArgs false
set_option linter.unusedVariables false
section
variable {X : FuncId → Option XFunc} (hX : SuCCode X)
include hX
set_option maxHeartbeats 4000000 in
omit hX in
theorem rnd128 {tmR : List AVal} (fr : tmR.length = 13 ∧ XOpd.eval tmR (.t 2) = .ptr 0 0) {ys : List AVal} {x : Bx} {σ : Store} (nx : 3 ≤ σ.next) {v : AVal} (g0 : σ.get 0 = some (.cells [v])) (hv : OutG 43 4 σ 3 ys v) (g1 : σ.get 1 = some (.oth (.loop .ready tmR [7] xf128a0 xf128b0))) (hlen : ys.length ≤ 1000000) :
    ∃ σ', Run X (.round 1) [Bx.enc x] σ = some (.ret, [.bool true], σ') ∧ 3 ≤ σ'.next ∧ (∃ w, σ'.get 0 = some (.cells [w]) ∧ OutG 43 4 σ' 3 (ys ++ [Bx.enc x]) w) ∧ σ'.get 1 = some (.oth (.loop .ready tmR [7] xf128a0 xf128b0)) ∧ σ'.get 2 = σ.get 2 ∧ σ.next ≤ σ'.next := by
  obtain ⟨hl, h2⟩ := fr
  obtain ⟨N, hN⟩ : ∃ N, σ.next = N + 3 := ⟨σ.next - 3, by omega⟩
  have hin : roundIn σ 1 [Bx.enc x] = some (putT tmR (some 7) (Bx.enc x), xf128a0, xf128b0) := by
    unfold roundIn
    rw [g1]; rfl
  have eA : Ends (Run X (.code xf128a0) (putT tmR (some 7) (Bx.enc x)) σ) .normal fun tm σ1 => tm.length = 13 ∧ XOpd.eval tm (.t 2) = .ptr 0 0 ∧ XOpd.eval tm (.t 5) = .ptr (N + 3) 0 ∧ σ1 = (σ.new (.cells [.int .i64 0, .int .i64 0, .int .i64 0, .int .i64 0])).put (N + 3) (.cells [.int .i64 x.a, .int .i64 x.b, .int .i64 x.c, .int .i64 x.d]) := by
    simp [xf128a0, Bx.enc, hl, h2, hN, put_next, new_next, Store.get_new, Store.get_put, put_get, setR, only_get, merge_get', only_next, merge_next, upTo_self, upTo_one, merge_only, touch, wrote, isIn, okRec, hits, capsOf, xcaps, stripL, AVal.strip, freeL, AVal.free, fillR, chunks, mkV]
  obtain ⟨o1, o2, o3, o4, o5⟩ := out_of eA
  generalize outT X xf128a0 _ σ = tm1 at *
  generalize outS X xf128a0 _ σ = σ1 at *
  have hmid : roundMid σ1 1 = some (σ1.put 1 (.oth (.loop .busy tmR [7] xf128a0 xf128b0))) := by
    unfold roundMid
    rw [o5, Store.get_put, Mem.put_ne _ (by omega), Store.get_new, Mem.put_ne _ (by omega), g1]
  rcases hv with ⟨rfl, rfl⟩ | ⟨j, j1, j2, rfl, j3, j4⟩
  · have eB : Ends (Run X (.code xf128b0) tm1 (σ1.put 1 (.oth (.loop .busy tmR [7] xf128a0 xf128b0)))) .normal fun _ σ3 => σ3.next = N + 6 ∧ σ3.get 0 = some (.cells [.list 4 [Bx.enc x] (some (N + 5))]) ∧ σ3.get (N + 5) = some (.tok 43 4 1) ∧ σ3.get 1 = some (.oth (.loop .busy tmR [7] xf128a0 xf128b0)) ∧ σ3.get 2 = σ.get 2 := by
      rw [o5]
      generalize (NObj.oth (.loop .busy tmR [7] xf128a0 xf128b0)) = ob
      simp [xf128b0, Bx.enc, o2, o3, o4, g0, hN, xappend, ones, AVal.one, AVal.cells, put_next, new_next, Store.get_new, Store.get_put, put_get, setR, only_get, merge_get', only_next, merge_next, upTo_self, upTo_one, merge_only, touch, wrote, isIn, okRec, hits, capsOf, xcaps, stripL, AVal.strip, freeL, AVal.free, fillR, chunks, mkV]
    obtain ⟨p1, p2, q0, q1, q2, q3⟩ := out_of eB
    generalize outT X xf128b0 _ _ = tm3 at *
    generalize outS X xf128b0 _ _ = σ3 at *
    have hout : roundOut σ3 1 .normal = some (σ3.put 1 (.oth (.loop .ready tmR [7] xf128a0 xf128b0))) := by
      unfold roundOut
      rw [q2]; rfl
    refine ⟨_, Run_round hin o1 hmid p1 hout, by show 3 ≤ σ3.next; omega, ⟨_, by rw [Store.get_put, Mem.put_ne _ (by decide), q0], ?_⟩, by rw [Store.get_put, Mem.put_self], by rw [Store.get_put, Mem.put_ne _ (by decide), q3], by show σ.next ≤ σ3.next; omega⟩
    exact .inr ⟨N + 5, by omega, by show N + 5 < σ3.next; omega, rfl, by rw [Store.get_put, Mem.put_ne _ (by omega), q1]; rfl, by simp⟩
  · have k1 : ¬ j = N + 3 := by omega
    have k2 : ¬ N + 3 = j := by omega
    have k3 : ¬ j = N + 3 + 1 := by omega
    have k4 : ¬ N + 3 + 1 = j := by omega
    have k5 : ¬ j = 0 := by omega
    have k6 : ¬ 0 = j := by omega
    have k7 : ¬ j = 1 := by omega
    have k8 : ¬ 1 = j := by omega
    have k9 : ¬ j = 2 := by omega
    have k10 : ¬ 2 = j := by omega
    have k11 : ¬ j = N + 4 := by omega
    have k12 : ¬ N + 4 = j := by omega
    have b1 : (ys.length + 1) * 32 ≤ 1000000000000 := by omega
    have b2 : ys.length + 1 ≤ 1000000000000 := by omega
    have b3 : ys.length ≤ 999999999999 := by omega
    have eB : Ends (Run X (.code xf128b0) tm1 (σ1.put 1 (.oth (.loop .busy tmR [7] xf128a0 xf128b0)))) .normal fun _ σ3 => σ3.next = N + 5 ∧ σ3.get 0 = some (.cells [.list 4 (ys ++ [Bx.enc x]) (some j)]) ∧ σ3.get j = some (.tok 43 4 (ys.length + 1)) ∧ σ3.get 1 = some (.oth (.loop .busy tmR [7] xf128a0 xf128b0)) ∧ σ3.get 2 = σ.get 2 := by
      rw [o5]
      generalize (NObj.oth (.loop .busy tmR [7] xf128a0 xf128b0)) = ob
      simp [xf128b0, Bx.enc, o2, o3, o4, g0, j3, hN, xappend, ones, AVal.one, AVal.cells, b1, b2, b3, k1, k2, k3, k4, k5, k6, k7, k8, k9, k10, k11, k12, put_next, new_next, Store.get_new, Store.get_put, put_get, setR, only_get, merge_get', only_next, merge_next, upTo_self, upTo_one, merge_only, touch, wrote, isIn, okRec, hits, capsOf, xcaps, stripL, AVal.strip, freeL, AVal.free, fillR, chunks, mkV]
    obtain ⟨p1, p2, q0, q1, q2, q3⟩ := out_of eB
    generalize outT X xf128b0 _ _ = tm3 at *
    generalize outS X xf128b0 _ _ = σ3 at *
    have hout : roundOut σ3 1 .normal = some (σ3.put 1 (.oth (.loop .ready tmR [7] xf128a0 xf128b0))) := by
      unfold roundOut
      rw [q2]; rfl
    refine ⟨_, Run_round hin o1 hmid p1 hout, by show 3 ≤ σ3.next; omega, ⟨_, by rw [Store.get_put, Mem.put_ne _ (by decide), q0], ?_⟩, by rw [Store.get_put, Mem.put_self], by rw [Store.get_put, Mem.put_ne _ (by decide), q3], by show σ.next ≤ σ3.next; omega⟩
    exact .inr ⟨j, j1, by show j < σ3.next; omega, rfl, by rw [Store.get_put, Mem.put_ne _ (by omega), q1]; simp, by simp⟩
set_option maxHeartbeats 1000000 in
theorem u128 {g : FuncId} {first caps : List AVal} (hf : freeL first = true) (hc : freeL caps = true) (xs : List Bx) (hn : xs.length ≤ 1000000) (it : ItOk X g first caps (xs.map Bx.enc)) (hfr : freeL (xs.map Bx.enc) = true) (σ : Store) :
    Run X (.call 128) [.nils, .fn g first caps] σ = some (.ret, [lstV 4 (xs.map Bx.enc)], σ) := by
  have hE : ∃ w, w = lstV 4 (xs.map Bx.enc) ∧ ∀ σ, Run X (.call 128) [.nils, .fn g first caps] σ = some (.ret, [w], σ) := by
    refine call2E hX.h128 rfl (by simp [AVal.strip, AVal.free, freeL_strip hf, freeL_strip hc, hf, hc]) (by decide) (fun tm hl h0 h1 => ?_)
    simp only [AVal.strip, freeL_strip hf, freeL_strip hc] at h0 h1
    replace hl : tm.length = 13 := hl
    have e0 : xf128.body = .seq xf128.body.fst (.seq (.seq xf128.body.snd.fst.fst (.block 0 (.rangeF (.t 6) [7] xf128a0 xf128b0))) xf128.body.snd.snd) := rfl
    unfold GivesE
    rw [e0, Run_seq]
    have eP : Ends (Run X (.code xf128.body.fst) tm Store.empty) .normal fun tm σ => tm.length = 13 ∧ XOpd.eval tm (.t 1) = .fn g first caps ∧ XOpd.eval tm (.t 2) = .ptr 0 0 ∧ σ = ⟨[(0, .cells [.nils])], 1⟩ := by
      simp [xf128, XCode.fst, hl, h0, h1, Store.empty, Store.new, Store.put, Store.get, look, putL, setR, Store.only, Store.merge, touch, wrote, upTo, isIn, okRec, hits, capsOf, xcaps, stripL, AVal.strip, freeL, AVal.free, fillR, chunks, mkV, List.filter]
    obtain ⟨o1, o2, o3, o4, o5⟩ := out_of eP
    generalize outT X xf128.body.fst tm Store.empty = tm1 at *
    generalize outS X xf128.body.fst tm Store.empty = σ1 at *
    rw [o1, thenC_normal, Run_seq, Run_seq]
    have eQ : Ends (Run X (.code xf128.body.snd.fst.fst) tm1 σ1) .normal fun tm σ => tm.length = 13 ∧ XOpd.eval tm (.t 6) = .fn g first caps ∧ XOpd.eval tm (.t 2) = .ptr 0 0 ∧ σ = σ1 := by
      simp [xf128, XCode.fst, XCode.snd, o2, o3, o4, put_next, new_next, Store.get_new, Store.get_put, put_get, setR, only_get, merge_get', only_next, merge_next, upTo_self, upTo_one, merge_only, touch, wrote, isIn, okRec, hits, capsOf, xcaps, stripL, AVal.strip, freeL, AVal.free, fillR, chunks, mkV]
    obtain ⟨q1, q2, q3, q4, q5⟩ := out_of eQ
    generalize outT X xf128.body.snd.fst.fst tm1 σ1 = tm2 at *
    generalize outS X xf128.body.snd.fst.fst tm1 σ1 = σ2 at *
    rw [q1, thenC_normal, Run_block]
    obtain ⟨σ0, hσ0⟩ : ∃ σ0, σ2.new (.oth (.loop .ready tm2 [7] xf128a0 xf128b0)) = σ0 := ⟨_, rfl⟩
    have n2 : σ2.next = 1 := by rw [q5, o5]
    have n0 : σ0.next = 2 := by rw [← hσ0]; simp [Store.new, n2]
    have g0 : σ0.get 0 = some (.cells [.nils]) := by rw [← hσ0, Store.get_new, Mem.put_ne _ (by omega), q5, o5]; rfl
    have g1 : σ0.get 1 = some (.oth (.loop .ready tm2 [7] xf128a0 xf128b0)) := by rw [← hσ0, Store.get_new, n2, Mem.put_self]
    obtain ⟨τ, hrun, hJ⟩ := it (m := 1) (σ0 := σ0) (J := fun i σ => 2 ≤ σ.next ∧ (∃ v, σ.get 0 = some (.cells [v]) ∧ OutG 43 4 σ 3 ((xs.map Bx.enc).take i) v) ∧ σ.get 1 = some (.oth (.loop .ready tm2 [7] xf128a0 xf128b0)))
      ⟨by omega, ⟨_, g0, .inl ⟨rfl, rfl⟩⟩, g1⟩
      (fun i σ τ hJ hg hn => by
        obtain ⟨j1, ⟨v, j2, j3⟩, j4⟩ := hJ
        rw [n0] at hg
        exact ⟨by omega, ⟨v, by rw [hg 0 (by omega) (by omega)]; exact j2, j3.far (fun k h1 h2 => hg k (by omega) h2) hn⟩, by rw [hg 1 (by omega) (by omega)]; exact j4⟩)
      (fun i x σ hx hJ hq => by
        obtain ⟨j1, ⟨v, j2, j3⟩, j4⟩ := hJ
        rw [n0] at hq
        rw [List.getElem?_map] at hx
        obtain ⟨y, hy, rfl⟩ := map_some hx
        have hlt : i < xs.length := (List.getElem?_eq_some_iff.1 hy).1
        obtain ⟨σ', k1, k2, ⟨w, k3, k4⟩, k5, k6, k7⟩ := rnd128 (X := X) ⟨q2, q4⟩ (x := y) (by omega) j2 j3 j4 (by simp; omega)
        refine ⟨σ', k1, ⟨by omega, ⟨w, k3, ?_⟩, k5⟩, by rw [n0]; exact k6, k7⟩
        rw [List.take_add_one, List.getElem?_map, hy]
        exact k4)
    have hcall : Run X (.code (.rangeF (.t 6) [7] xf128a0 xf128b0)) tm2 σ2 = rangeC (some (.ret, [.tup []], gc σ0 τ (.tup []))) 1 tm2 := by
      rw [Run_rangeF, q3]
      simp only [rangeD, n2, hσ0]
      rw [hrun]
    obtain ⟨j1, ⟨v, j2, j3⟩, j4⟩ := hJ
    have ho : rangeOut (gc σ0 τ (.tup [])) 1 = some .normal := by unfold rangeOut; rw [gc_get (by omega), j4]
    rw [hcall, rangeC_some _ _ _ _ _ ho, blockC_normal, thenC_normal]
    have dg : ((gc σ0 τ (.tup [])).drop 1).get 0 = some (.cells [v]) := by
      rw [drop_get, if_neg (by omega), gc_get (by omega)]; exact j2
    generalize (gc σ0 τ (.tup [])).drop 1 = σ3 at *
    rw [List.take_of_length_le (by simp)] at j3
    have hv : v.strip = lstV 4 (xs.map Bx.enc) ∧ v.strip.free = true := by
      rcases j3 with ⟨rfl, h2⟩ | ⟨j, h1, h2, rfl, h4, h5⟩
      · rw [h2]; exact ⟨rfl, rfl⟩
      · refine ⟨?_, by simp [AVal.strip, AVal.free, freeL_strip hfr, hfr]⟩
        unfold lstV
        rw [if_neg h5]; simp [AVal.strip, freeL_strip hfr]
    simp [xf128, XCode.fst, XCode.snd, q2, q4, dg, givesE, holdsO, Told, hv.1, hv.2, put_next, new_next, Store.get_new, Store.get_put, put_get, setR, only_get, merge_get', only_next, merge_next, upTo_self, upTo_one, merge_only, touch, wrote, isIn, okRec, hits, capsOf, xcaps, stripL, AVal.strip, freeL, AVal.free, fillR, chunks, mkV]
    rw [← hv.1]; exact hv.2
  obtain ⟨w, rfl, h⟩ := hE
  exact h σ
end
end Go.Proofs.Ytlknncjnfgnlaaa.Eng

/-
  SURGE: lists of states from a loop over a function.
-/
namespace Go.Proofs.Ytlknncjnfgnlaaa.Eng
set_option linter.unusedSimpArgs false
set_option linter.unusedVariables false
section
variable {X : FuncId → Option XFunc} (hX : SuCCode X)
include hX
set_option maxHeartbeats 4000000 in
omit hX in
theorem rnd124 {tmR : List AVal} (fr : tmR.length = 13 ∧ XOpd.eval tmR (.t 2) = .ptr 0 0) {ys : List AVal} {x : Int × Int} {σ : Store} (nx : 3 ≤ σ.next) {v : AVal} (g0 : σ.get 0 = some (.cells [v])) (hv : OutG 27 2 σ 3 ys v) (g1 : σ.get 1 = some (.oth (.loop .ready tmR [7] xf124a0 xf124b0))) (hlen : ys.length ≤ 1000000) :
    ∃ σ', Run X (.round 1) [st x] σ = some (.ret, [.bool true], σ') ∧ 3 ≤ σ'.next ∧ (∃ w, σ'.get 0 = some (.cells [w]) ∧ OutG 27 2 σ' 3 (ys ++ [st x]) w) ∧ σ'.get 1 = some (.oth (.loop .ready tmR [7] xf124a0 xf124b0)) ∧ σ'.get 2 = σ.get 2 ∧ σ.next ≤ σ'.next := by
  obtain ⟨hl, h2⟩ := fr
  obtain ⟨N, hN⟩ : ∃ N, σ.next = N + 3 := ⟨σ.next - 3, by omega⟩
  have hin : roundIn σ 1 [st x] = some (putT tmR (some 7) (st x), xf124a0, xf124b0) := by
    unfold roundIn
    rw [g1]; rfl
  have eA : Ends (Run X (.code xf124a0) (putT tmR (some 7) (st x)) σ) .normal fun tm σ1 => tm.length = 13 ∧ XOpd.eval tm (.t 2) = .ptr 0 0 ∧ XOpd.eval tm (.t 5) = .ptr (N + 3) 0 ∧ σ1 = (σ.new (.cells [.int .i64 0, .int .i64 0])).put (N + 3) (.cells [.int .i64 x.1, .int .i64 x.2]) := by
    simp [xf124a0, st, hl, h2, hN, put_next, new_next, Store.get_new, Store.get_put, put_get, setR, only_get, merge_get', only_next, merge_next, upTo_self, upTo_one, merge_only, touch, wrote, isIn, okRec, hits, capsOf, xcaps, stripL, AVal.strip, freeL, AVal.free, fillR, chunks, mkV]
  obtain ⟨o1, o2, o3, o4, o5⟩ := out_of eA
  generalize outT X xf124a0 _ σ = tm1 at *
  generalize outS X xf124a0 _ σ = σ1 at *
  have hmid : roundMid σ1 1 = some (σ1.put 1 (.oth (.loop .busy tmR [7] xf124a0 xf124b0))) := by
    unfold roundMid
    rw [o5, Store.get_put, Mem.put_ne _ (by omega), Store.get_new, Mem.put_ne _ (by omega), g1]
  rcases hv with ⟨rfl, rfl⟩ | ⟨j, j1, j2, rfl, j3, j4⟩
  · have eB : Ends (Run X (.code xf124b0) tm1 (σ1.put 1 (.oth (.loop .busy tmR [7] xf124a0 xf124b0)))) .normal fun _ σ3 => σ3.next = N + 6 ∧ σ3.get 0 = some (.cells [.list 2 [st x] (some (N + 5))]) ∧ σ3.get (N + 5) = some (.tok 27 2 1) ∧ σ3.get 1 = some (.oth (.loop .busy tmR [7] xf124a0 xf124b0)) ∧ σ3.get 2 = σ.get 2 := by
      rw [o5]
      generalize (NObj.oth (.loop .busy tmR [7] xf124a0 xf124b0)) = ob
      simp [xf124b0, st, o2, o3, o4, g0, hN, xappend, ones, AVal.one, AVal.cells, put_next, new_next, Store.get_new, Store.get_put, put_get, setR, only_get, merge_get', only_next, merge_next, upTo_self, upTo_one, merge_only, touch, wrote, isIn, okRec, hits, capsOf, xcaps, stripL, AVal.strip, freeL, AVal.free, fillR, chunks, mkV]
    obtain ⟨p1, p2, q0, q1, q2, q3⟩ := out_of eB
    generalize outT X xf124b0 _ _ = tm3 at *
    generalize outS X xf124b0 _ _ = σ3 at *
    have hout : roundOut σ3 1 .normal = some (σ3.put 1 (.oth (.loop .ready tmR [7] xf124a0 xf124b0))) := by
      unfold roundOut
      rw [q2]; rfl
    refine ⟨_, Run_round hin o1 hmid p1 hout, by show 3 ≤ σ3.next; omega, ⟨_, by rw [Store.get_put, Mem.put_ne _ (by decide), q0], ?_⟩, by rw [Store.get_put, Mem.put_self], by rw [Store.get_put, Mem.put_ne _ (by decide), q3], by show σ.next ≤ σ3.next; omega⟩
    exact .inr ⟨N + 5, by omega, by show N + 5 < σ3.next; omega, rfl, by rw [Store.get_put, Mem.put_ne _ (by omega), q1]; rfl, by simp⟩
  · have k1 : ¬ j = N + 3 := by omega
    have k2 : ¬ N + 3 = j := by omega
    have k3 : ¬ j = N + 3 + 1 := by omega
    have k4 : ¬ N + 3 + 1 = j := by omega
    have k5 : ¬ j = 0 := by omega
    have k6 : ¬ 0 = j := by omega
    have k7 : ¬ j = 1 := by omega
    have k8 : ¬ 1 = j := by omega
    have k9 : ¬ j = 2 := by omega
    have k10 : ¬ 2 = j := by omega
    have k11 : ¬ j = N + 4 := by omega
    have k12 : ¬ N + 4 = j := by omega
    have b1 : (ys.length + 1) * 16 ≤ 1000000000000 := by omega
    have b2 : ys.length + 1 ≤ 1000000000000 := by omega
    have b3 : ys.length ≤ 999999999999 := by omega
    have eB : Ends (Run X (.code xf124b0) tm1 (σ1.put 1 (.oth (.loop .busy tmR [7] xf124a0 xf124b0)))) .normal fun _ σ3 => σ3.next = N + 5 ∧ σ3.get 0 = some (.cells [.list 2 (ys ++ [st x]) (some j)]) ∧ σ3.get j = some (.tok 27 2 (ys.length + 1)) ∧ σ3.get 1 = some (.oth (.loop .busy tmR [7] xf124a0 xf124b0)) ∧ σ3.get 2 = σ.get 2 := by
      rw [o5]
      generalize (NObj.oth (.loop .busy tmR [7] xf124a0 xf124b0)) = ob
      simp [xf124b0, st, o2, o3, o4, g0, j3, hN, xappend, ones, AVal.one, AVal.cells, b1, b2, b3, k1, k2, k3, k4, k5, k6, k7, k8, k9, k10, k11, k12, put_next, new_next, Store.get_new, Store.get_put, put_get, setR, only_get, merge_get', only_next, merge_next, upTo_self, upTo_one, merge_only, touch, wrote, isIn, okRec, hits, capsOf, xcaps, stripL, AVal.strip, freeL, AVal.free, fillR, chunks, mkV]
    obtain ⟨p1, p2, q0, q1, q2, q3⟩ := out_of eB
    generalize outT X xf124b0 _ _ = tm3 at *
    generalize outS X xf124b0 _ _ = σ3 at *
    have hout : roundOut σ3 1 .normal = some (σ3.put 1 (.oth (.loop .ready tmR [7] xf124a0 xf124b0))) := by
      unfold roundOut
      rw [q2]; rfl
    refine ⟨_, Run_round hin o1 hmid p1 hout, by show 3 ≤ σ3.next; omega, ⟨_, by rw [Store.get_put, Mem.put_ne _ (by decide), q0], ?_⟩, by rw [Store.get_put, Mem.put_self], by rw [Store.get_put, Mem.put_ne _ (by decide), q3], by show σ.next ≤ σ3.next; omega⟩
    exact .inr ⟨j, j1, by show j < σ3.next; omega, rfl, by rw [Store.get_put, Mem.put_ne _ (by omega), q1]; simp, by simp⟩
set_option maxHeartbeats 1000000 in
theorem u124 {g : FuncId} {first caps : List AVal} (hf : freeL first = true) (hc : freeL caps = true) (xs : List (Int × Int)) (hn : xs.length ≤ 1000000) (it : ItOk X g first caps (xs.map st)) (hfr : freeL (xs.map st) = true) (σ : Store) :
    Run X (.call 124) [.nils, .fn g first caps] σ = some (.ret, [lstV 2 (xs.map st)], σ) := by
  have hE : ∃ w, w = lstV 2 (xs.map st) ∧ ∀ σ, Run X (.call 124) [.nils, .fn g first caps] σ = some (.ret, [w], σ) := by
    refine call2E hX.h124 rfl (by simp [AVal.strip, AVal.free, freeL_strip hf, freeL_strip hc, hf, hc]) (by decide) (fun tm hl h0 h1 => ?_)
    simp only [AVal.strip, freeL_strip hf, freeL_strip hc] at h0 h1
    replace hl : tm.length = 13 := hl
    have e0 : xf124.body = .seq xf124.body.fst (.seq (.seq xf124.body.snd.fst.fst (.block 0 (.rangeF (.t 6) [7] xf124a0 xf124b0))) xf124.body.snd.snd) := rfl
    unfold GivesE
    rw [e0, Run_seq]
    have eP : Ends (Run X (.code xf124.body.fst) tm Store.empty) .normal fun tm σ => tm.length = 13 ∧ XOpd.eval tm (.t 1) = .fn g first caps ∧ XOpd.eval tm (.t 2) = .ptr 0 0 ∧ σ = ⟨[(0, .cells [.nils])], 1⟩ := by
      simp [xf124, XCode.fst, hl, h0, h1, Store.empty, Store.new, Store.put, Store.get, look, putL, setR, Store.only, Store.merge, touch, wrote, upTo, isIn, okRec, hits, capsOf, xcaps, stripL, AVal.strip, freeL, AVal.free, fillR, chunks, mkV, List.filter]
    obtain ⟨o1, o2, o3, o4, o5⟩ := out_of eP
    generalize outT X xf124.body.fst tm Store.empty = tm1 at *
    generalize outS X xf124.body.fst tm Store.empty = σ1 at *
    rw [o1, thenC_normal, Run_seq, Run_seq]
    have eQ : Ends (Run X (.code xf124.body.snd.fst.fst) tm1 σ1) .normal fun tm σ => tm.length = 13 ∧ XOpd.eval tm (.t 6) = .fn g first caps ∧ XOpd.eval tm (.t 2) = .ptr 0 0 ∧ σ = σ1 := by
      simp [xf124, XCode.fst, XCode.snd, o2, o3, o4, put_next, new_next, Store.get_new, Store.get_put, put_get, setR, only_get, merge_get', only_next, merge_next, upTo_self, upTo_one, merge_only, touch, wrote, isIn, okRec, hits, capsOf, xcaps, stripL, AVal.strip, freeL, AVal.free, fillR, chunks, mkV]
    obtain ⟨q1, q2, q3, q4, q5⟩ := out_of eQ
    generalize outT X xf124.body.snd.fst.fst tm1 σ1 = tm2 at *
    generalize outS X xf124.body.snd.fst.fst tm1 σ1 = σ2 at *
    rw [q1, thenC_normal, Run_block]
    obtain ⟨σ0, hσ0⟩ : ∃ σ0, σ2.new (.oth (.loop .ready tm2 [7] xf124a0 xf124b0)) = σ0 := ⟨_, rfl⟩
    have n2 : σ2.next = 1 := by rw [q5, o5]
    have n0 : σ0.next = 2 := by rw [← hσ0]; simp [Store.new, n2]
    have g0 : σ0.get 0 = some (.cells [.nils]) := by rw [← hσ0, Store.get_new, Mem.put_ne _ (by omega), q5, o5]; rfl
    have g1 : σ0.get 1 = some (.oth (.loop .ready tm2 [7] xf124a0 xf124b0)) := by rw [← hσ0, Store.get_new, n2, Mem.put_self]
    obtain ⟨τ, hrun, hJ⟩ := it (m := 1) (σ0 := σ0) (J := fun i σ => 2 ≤ σ.next ∧ (∃ v, σ.get 0 = some (.cells [v]) ∧ OutG 27 2 σ 3 ((xs.map st).take i) v) ∧ σ.get 1 = some (.oth (.loop .ready tm2 [7] xf124a0 xf124b0)))
      ⟨by omega, ⟨_, g0, .inl ⟨rfl, rfl⟩⟩, g1⟩
      (fun i σ τ hJ hg hn => by
        obtain ⟨j1, ⟨v, j2, j3⟩, j4⟩ := hJ
        rw [n0] at hg
        exact ⟨by omega, ⟨v, by rw [hg 0 (by omega) (by omega)]; exact j2, j3.far (fun k h1 h2 => hg k (by omega) h2) hn⟩, by rw [hg 1 (by omega) (by omega)]; exact j4⟩)
      (fun i x σ hx hJ hq => by
        obtain ⟨j1, ⟨v, j2, j3⟩, j4⟩ := hJ
        rw [n0] at hq
        rw [List.getElem?_map] at hx
        obtain ⟨y, hy, rfl⟩ := map_some hx
        have hlt : i < xs.length := (List.getElem?_eq_some_iff.1 hy).1
        obtain ⟨σ', k1, k2, ⟨w, k3, k4⟩, k5, k6, k7⟩ := rnd124 (X := X) ⟨q2, q4⟩ (x := y) (by omega) j2 j3 j4 (by simp; omega)
        refine ⟨σ', k1, ⟨by omega, ⟨w, k3, ?_⟩, k5⟩, by rw [n0]; exact k6, k7⟩
        rw [List.take_add_one, List.getElem?_map, hy]
        exact k4)
    have hcall : Run X (.code (.rangeF (.t 6) [7] xf124a0 xf124b0)) tm2 σ2 = rangeC (some (.ret, [.tup []], gc σ0 τ (.tup []))) 1 tm2 := by
      rw [Run_rangeF, q3]
      simp only [rangeD, n2, hσ0]
      rw [hrun]
    obtain ⟨j1, ⟨v, j2, j3⟩, j4⟩ := hJ
    have ho : rangeOut (gc σ0 τ (.tup [])) 1 = some .normal := by unfold rangeOut; rw [gc_get (by omega), j4]
    rw [hcall, rangeC_some _ _ _ _ _ ho, blockC_normal, thenC_normal]
    have dg : ((gc σ0 τ (.tup [])).drop 1).get 0 = some (.cells [v]) := by
      rw [drop_get, if_neg (by omega), gc_get (by omega)]; exact j2
    generalize (gc σ0 τ (.tup [])).drop 1 = σ3 at *
    rw [List.take_of_length_le (by simp)] at j3
    have hv : v.strip = lstV 2 (xs.map st) ∧ v.strip.free = true := by
      rcases j3 with ⟨rfl, h2⟩ | ⟨j, h1, h2, rfl, h4, h5⟩
      · rw [h2]; exact ⟨rfl, rfl⟩
      · refine ⟨?_, by simp [AVal.strip, AVal.free, freeL_strip hfr, hfr]⟩
        unfold lstV
        rw [if_neg h5]; simp [AVal.strip, freeL_strip hfr]
    simp [xf124, XCode.fst, XCode.snd, q2, q4, dg, givesE, holdsO, Told, hv.1, hv.2, put_next, new_next, Store.get_new, Store.get_put, put_get, setR, only_get, merge_get', only_next, merge_next, upTo_self, upTo_one, merge_only, touch, wrote, isIn, okRec, hits, capsOf, xcaps, stripL, AVal.strip, freeL, AVal.free, fillR, chunks, mkV]
    rw [← hv.1]; exact hv.2
  obtain ⟨w, rfl, h⟩ := hE
  exact h σ
end
end Go.Proofs.Ytlknncjnfgnlaaa.Eng

/-
  SURGE: states, one after the other.
-/
namespace Go.Proofs.Ytlknncjnfgnlaaa.Eng
set_option linter.unusedSimpArgs false
set_option linter.unusedVariables false
def ints (L : List Int) : List AVal := L.map (AVal.int .i64)
section
variable {X : FuncId → Option XFunc} (hX : SuCCode X)
include hX
omit hX in
set_option maxHeartbeats 1000000 in
theorem loop146 {L : List Int} {w : AVal} (hw : w = .list 1 (ints L) none ∨ L = []) (hn : L.length ≤ 1000000) {gf : FuncId} {a c : List AVal} {sq : Nat → Int × Int} (hs : ∀ i, i < L.length → ∀ σ, Run X (.call gf) (a ++ ((st (sq i)) :: .int .i64 (L.getD i 0) :: c)) σ = some (.ret, [st (sq (i + 1))], σ)) {m q : Nat} {J : Nat → Store → Prop}
    (hst : ∀ i σ τ, J i σ → (∀ k, k ≠ q → k < σ.next → τ.get k = σ.get k) → σ.next ≤ τ.next → J i τ)
    (hrd : ∀ i σ, i < L.length → J i σ → q < σ.next → ∃ σ', Run X (.round m) [st (sq (i + 1))] σ = some (.ret, [.bool true], σ') ∧ J (i + 1) σ' ∧ σ'.get q = σ.get q ∧ σ.next ≤ σ'.next) :
    ∀ (k i : Nat), i + k = L.length → ∀ (tm : List AVal) (σ : Store), tm.length = 24 → XOpd.eval tm (.t 0) = .yld m → XOpd.eval tm (.t 3) = .iptr [.fn gf a c] 0 → XOpd.eval tm (.t 5) = .ptr q 0 → XOpd.eval tm (.t 9) = w → XOpd.eval tm (.t 10) = .int .i64 L.length → XOpd.eval tm (.t 11) = .int .i64 i → σ.get q = some (.cells [.int .i64 (sq i).1, .int .i64 (sq i).2]) → q < σ.next → J i σ →
      ∃ tm' σ', Run X (.code (.loop xf146l0)) tm σ = some (.exit 0, tm', σ') ∧ J L.length σ'
  | 0, i, hk, tm, σ, hl, h0, h3, h5, h9, h10, h11, gq, hq, hJ => by
    have hi : i = L.length := by omega
    subst hi
    refine ⟨putT tm (some 12) (.bool false), σ, ?_, hJ⟩
    rw [Run_loop]
    simp [xf146l0, hl, h10, h11]
  | k + 1, i, hk, tm, σ, hl, h0, h3, h5, h9, h10, h11, gq, hq, hJ => by
    have hi : i < L.length := by omega
    have hiw : IntKind.i64.wrap ((i : Int) + 1) = ((i + 1 : Nat) : Int) := by rw [wrap_i64] <;> omega
    have hwl : w = .list 1 (ints L) none := hw.elim id (fun h => by rw [h] at hi; simp at hi)
    subst hwl
    have hg : (ints L)[i]? = some (.int .i64 (L.getD i 0)) := by simp [ints, hi]
    have hs := hs i hi
    have ih := loop146 hw hn (a := a) (c := c) (sq := sq) (by assumption) hst hrd k (i + 1) (by omega)
    have hJ1 : J i (σ.put q (.cells [.int .i64 (sq (i + 1)).1, .int .i64 (sq (i + 1)).2])) := hst i σ _ hJ (fun j h1 h2 => by rw [Store.get_put, Mem.put_ne _ (Ne.symm h1)]) (Nat.le_refl _)
    obtain ⟨σ', r1, r2, r3, r4⟩ := hrd i _ hi hJ1 hq
    rw [Store.get_put, Mem.put_self] at r3
    simp only [st] at hs r1
    generalize L.getD i 0 = y at hg hs
    have key : Ends (Run X (.code xf146l0) tm σ) .normal fun tm' τ => τ = σ' ∧ tm'.length = 24 ∧ XOpd.eval tm' (.t 0) = .yld m ∧ XOpd.eval tm' (.t 3) = .iptr [.fn gf a c] 0 ∧ XOpd.eval tm' (.t 5) = .ptr q 0 ∧ XOpd.eval tm' (.t 9) = .list 1 (ints L) none ∧ XOpd.eval tm' (.t 10) = .int .i64 L.length ∧ XOpd.eval tm' (.t 11) = .int .i64 ((i + 1 : Nat) : Int) := by
      simp [xf146l0, hl, h0, h3, h5, h9, h10, h11, gq, hi, hg, hs, r1, hiw, AVal.cells, put_next, new_next, Store.get_new, Store.get_put, put_get, setR, only_get, merge_get', only_next, merge_next, upTo_self, upTo_one, merge_only, touch, wrote, isIn, okRec, hits, capsOf, xcaps, stripL, AVal.strip, freeL, AVal.free, fillR, chunks, mkV]
    obtain ⟨o1, o2, o3, o4, o5, o6, o7, o8, o9⟩ := out_of key
    rw [Run_loop, o1, thenC_normal]
    exact ih _ _ o3 o4 o5 o6 o7 o8 o9 (by rw [o2]; exact r3) (by rw [o2]; exact Nat.lt_of_lt_of_le hq r4) (by rw [o2]; exact r2)
set_option maxHeartbeats 1000000 in
theorem it146 {L : List Int} {w : AVal} (hw : (L = [] ∧ w = .nils) ∨ w = .list 1 (ints L) none) (hn : L.length ≤ 1000000) {gf : FuncId} {a c : List AVal} {sq : Nat → Int × Int} (hs : ∀ i, i < L.length → ∀ σ, Run X (.call gf) (a ++ ((st (sq i)) :: .int .i64 (L.getD i 0) :: c)) σ = some (.ret, [st (sq (i + 1))], σ)) :
    ItOk X 146 [] [.iptr [.int .i64 (sq 0).1, .int .i64 (sq 0).2] 0, .iptr [w] 0, .iptr [.fn gf a c] 0] ((List.range L.length).map fun i => st (sq (i + 1))) := by
  intro m σ0 J hJ0 hst hrd
  have hx : xlen w = some (.int .i64 L.length) := by
    rcases hw with ⟨rfl, rfl⟩ | rfl
    · rfl
    · simp [xlen, ints]
  have e0 : xf146.body = .seq xf146.body.fst (.seq xf146.body.snd.fst (.block 0 (.loop xf146l0))) := rfl
  have eA : Ends (Run X (.code xf146.body.fst) (frame [.yld m, .iptr [.int .i64 (sq 0).1, .int .i64 (sq 0).2] 0, .iptr [w] 0, .iptr [.fn gf a c] 0] 24) σ0) .normal fun tm σ => tm.length = 24 ∧ XOpd.eval tm (.t 0) = .yld m ∧ XOpd.eval tm (.t 2) = .iptr [w] 0 ∧ XOpd.eval tm (.t 3) = .iptr [.fn gf a c] 0 ∧ XOpd.eval tm (.t 5) = .ptr σ0.next 0 ∧
      σ = (σ0.new (.cells [.int .i64 0, .int .i64 0])).put σ0.next (.cells [.int .i64 (sq 0).1, .int .i64 (sq 0).2]) := by
    have f3 : XOpd.eval (frame [.yld m, .iptr [.int .i64 (sq 0).1, .int .i64 (sq 0).2] 0, .iptr [w] 0, .iptr [.fn gf a c] 0] 24) (.t 3) = .iptr [.fn gf a c] 0 := by simp [frame, XOpd.eval]
    simp [xf146, XCode.fst, f3, AVal.cells, put_next, new_next, Store.get_new, Store.get_put, put_get, setR, only_get, merge_get', only_next, merge_next, upTo_self, upTo_one, merge_only, touch, wrote, isIn, okRec, hits, capsOf, xcaps, stripL, AVal.strip, freeL, AVal.free, fillR, chunks, mkV]
  obtain ⟨o1, o2, o3, o4, o5, o6, o7⟩ := out_of eA
  generalize outT X xf146.body.fst (frame [.yld m, .iptr [.int .i64 (sq 0).1, .int .i64 (sq 0).2] 0, .iptr [w] 0, .iptr [.fn gf a c] 0] 24) σ0 = tm1 at *
  generalize outS X xf146.body.fst (frame [.yld m, .iptr [.int .i64 (sq 0).1, .int .i64 (sq 0).2] 0, .iptr [w] 0, .iptr [.fn gf a c] 0] 24) σ0 = σ1 at *
  have eB : Ends (Run X (.code xf146.body.snd.fst) tm1 σ1) .normal fun tm σ => tm.length = 24 ∧ XOpd.eval tm (.t 0) = .yld m ∧ XOpd.eval tm (.t 3) = .iptr [.fn gf a c] 0 ∧ XOpd.eval tm (.t 5) = .ptr σ0.next 0 ∧ XOpd.eval tm (.t 9) = w ∧ XOpd.eval tm (.t 10) = .int .i64 L.length ∧ XOpd.eval tm (.t 11) = .int .i64 0 ∧ σ = σ1 := by
    simp [xf146, XCode.fst, XCode.snd, o2, o3, o4, o5, o6, hx, AVal.cells, put_next, new_next, Store.get_new, Store.get_put, put_get, setR, only_get, merge_get', only_next, merge_next, upTo_self, upTo_one, merge_only, touch, wrote, isIn, okRec, hits, capsOf, xcaps, stripL, AVal.strip, freeL, AVal.free, fillR, chunks, mkV]
  obtain ⟨q1, q2, q3, q4, q5, q6, q7, q8, q9⟩ := out_of eB
  generalize outT X xf146.body.snd.fst tm1 σ1 = tm2 at *
  generalize outS X xf146.body.snd.fst tm1 σ1 = σ2 at *
  subst q9
  have nxt : σ2.next = σ0.next + 1 := by rw [o7]; simp [Store.new, Store.put]
  have far : ∀ k, k ≠ σ0.next → σ2.get k = σ0.get k := fun k hk => by
    rw [o7, Store.get_put, Mem.put_ne _ (Ne.symm hk), Store.get_new, Mem.put_ne _ (Ne.symm hk)]
  have gq : σ2.get σ0.next = some (.cells [.int .i64 (sq 0).1, .int .i64 (sq 0).2]) := by rw [o7, Store.get_put, Mem.put_self]
  obtain ⟨tm3, σ3, p1, p2⟩ := loop146 (X := X) (L := L) (w := w) (hw.elim (fun h => .inr h.1) .inl) hn hs (m := m) (q := σ0.next) (J := J) hst
    (fun i σ hi hJ hq => hrd i _ σ (by rw [List.getElem?_map, List.getElem?_range hi]; rfl) hJ hq) L.length 0 (by omega) tm2 σ2 q2 q3 q4 q5 q6 q7 q8 gq (by omega) (hst 0 σ0 σ2 hJ0 (fun k h1 h2 => far k h1) (by omega))
  have hnp : freeL (stripL ([] ++ [.yld m] ++ [.iptr [.int .i64 (sq 0).1, .int .i64 (sq 0).2] 0, .iptr [w] 0, .iptr [.fn gf a c] 0])) = false := by simp [stripL, AVal.strip, freeL, AVal.free]
  refine ⟨σ3, ?_, by simpa using p2⟩
  rw [call_np hX.h146 hnp]
  show npC σ0 [] (Run X (.code xf146.body) (frame [.yld m, .iptr [.int .i64 (sq 0).1, .int .i64 (sq 0).2] 0, .iptr [w] 0, .iptr [.fn gf a c] 0] 24) σ0) = _
  rw [e0, Run_seq, o1, thenC_normal, Run_seq, q1, thenC_normal, Run_block, p1, blockC_exit]
  rfl
end
end Go.Proofs.Ytlknncjnfgnlaaa.Eng

/-
  SURGE: boxes, one after the other.
-/
namespace Go.Proofs.Ytlknncjnfgnlaaa.Eng
set_option linter.unusedSimpArgs false
set_option linter.unusedVariables false
section
variable {X : FuncId → Option XFunc} (hX : SuCCode X)
include hX
omit hX in
set_option maxHeartbeats 1000000 in
theorem loop147 {L : List Int} {w : AVal} (hw : w = .list 1 (ints L) none ∨ L = []) (hn : L.length ≤ 1000000) {gf : FuncId} {a c : List AVal} {sq : Nat → Bx} (hs : ∀ i, i < L.length → ∀ σ, Run X (.call gf) (a ++ ((Bx.enc (sq i)) :: .int .i64 (L.getD i 0) :: c)) σ = some (.ret, [Bx.enc (sq (i + 1))], σ)) {m q : Nat} {J : Nat → Store → Prop}
    (hst : ∀ i σ τ, J i σ → (∀ k, k ≠ q → k < σ.next → τ.get k = σ.get k) → σ.next ≤ τ.next → J i τ)
    (hrd : ∀ i σ, i < L.length → J i σ → q < σ.next → ∃ σ', Run X (.round m) [Bx.enc (sq (i + 1))] σ = some (.ret, [.bool true], σ') ∧ J (i + 1) σ' ∧ σ'.get q = σ.get q ∧ σ.next ≤ σ'.next) :
    ∀ (k i : Nat), i + k = L.length → ∀ (tm : List AVal) (σ : Store), tm.length = 24 → XOpd.eval tm (.t 0) = .yld m → XOpd.eval tm (.t 3) = .iptr [.fn gf a c] 0 → XOpd.eval tm (.t 5) = .ptr q 0 → XOpd.eval tm (.t 9) = w → XOpd.eval tm (.t 10) = .int .i64 L.length → XOpd.eval tm (.t 11) = .int .i64 i → σ.get q = some (.cells [.int .i64 (sq i).a, .int .i64 (sq i).b, .int .i64 (sq i).c, .int .i64 (sq i).d]) → q < σ.next → J i σ →
      ∃ tm' σ', Run X (.code (.loop xf147l0)) tm σ = some (.exit 0, tm', σ') ∧ J L.length σ'
  | 0, i, hk, tm, σ, hl, h0, h3, h5, h9, h10, h11, gq, hq, hJ => by
    have hi : i = L.length := by omega
    subst hi
    refine ⟨putT tm (some 12) (.bool false), σ, ?_, hJ⟩
    rw [Run_loop]
    simp [xf147l0, hl, h10, h11]
  | k + 1, i, hk, tm, σ, hl, h0, h3, h5, h9, h10, h11, gq, hq, hJ => by
    have hi : i < L.length := by omega
    have hiw : IntKind.i64.wrap ((i : Int) + 1) = ((i + 1 : Nat) : Int) := by rw [wrap_i64] <;> omega
    have hwl : w = .list 1 (ints L) none := hw.elim id (fun h => by rw [h] at hi; simp at hi)
    subst hwl
    have hg : (ints L)[i]? = some (.int .i64 (L.getD i 0)) := by simp [ints, hi]
    have hs := hs i hi
    have ih := loop147 hw hn (a := a) (c := c) (sq := sq) (by assumption) hst hrd k (i + 1) (by omega)
    have hJ1 : J i (σ.put q (.cells [.int .i64 (sq (i + 1)).a, .int .i64 (sq (i + 1)).b, .int .i64 (sq (i + 1)).c, .int .i64 (sq (i + 1)).d])) := hst i σ _ hJ (fun j h1 h2 => by rw [Store.get_put, Mem.put_ne _ (Ne.symm h1)]) (Nat.le_refl _)
    obtain ⟨σ', r1, r2, r3, r4⟩ := hrd i _ hi hJ1 hq
    rw [Store.get_put, Mem.put_self] at r3
    simp only [Bx.enc] at hs r1
    generalize L.getD i 0 = y at hg hs
    have key : Ends (Run X (.code xf147l0) tm σ) .normal fun tm' τ => τ = σ' ∧ tm'.length = 24 ∧ XOpd.eval tm' (.t 0) = .yld m ∧ XOpd.eval tm' (.t 3) = .iptr [.fn gf a c] 0 ∧ XOpd.eval tm' (.t 5) = .ptr q 0 ∧ XOpd.eval tm' (.t 9) = .list 1 (ints L) none ∧ XOpd.eval tm' (.t 10) = .int .i64 L.length ∧ XOpd.eval tm' (.t 11) = .int .i64 ((i + 1 : Nat) : Int) := by
      simp [xf147l0, hl, h0, h3, h5, h9, h10, h11, gq, hi, hg, hs, r1, hiw, AVal.cells, put_next, new_next, Store.get_new, Store.get_put, put_get, setR, only_get, merge_get', only_next, merge_next, upTo_self, upTo_one, merge_only, touch, wrote, isIn, okRec, hits, capsOf, xcaps, stripL, AVal.strip, freeL, AVal.free, fillR, chunks, mkV]
    obtain ⟨o1, o2, o3, o4, o5, o6, o7, o8, o9⟩ := out_of key
    rw [Run_loop, o1, thenC_normal]
    exact ih _ _ o3 o4 o5 o6 o7 o8 o9 (by rw [o2]; exact r3) (by rw [o2]; exact Nat.lt_of_lt_of_le hq r4) (by rw [o2]; exact r2)
set_option maxHeartbeats 1000000 in
theorem it147 {L : List Int} {w : AVal} (hw : (L = [] ∧ w = .nils) ∨ w = .list 1 (ints L) none) (hn : L.length ≤ 1000000) {gf : FuncId} {a c : List AVal} {sq : Nat → Bx} (hs : ∀ i, i < L.length → ∀ σ, Run X (.call gf) (a ++ ((Bx.enc (sq i)) :: .int .i64 (L.getD i 0) :: c)) σ = some (.ret, [Bx.enc (sq (i + 1))], σ)) :
    ItOk X 147 [] [.iptr [.int .i64 (sq 0).a, .int .i64 (sq 0).b, .int .i64 (sq 0).c, .int .i64 (sq 0).d] 0, .iptr [w] 0, .iptr [.fn gf a c] 0] ((List.range L.length).map fun i => Bx.enc (sq (i + 1))) := by
  intro m σ0 J hJ0 hst hrd
  have hx : xlen w = some (.int .i64 L.length) := by
    rcases hw with ⟨rfl, rfl⟩ | rfl
    · rfl
    · simp [xlen, ints]
  have e0 : xf147.body = .seq xf147.body.fst (.seq xf147.body.snd.fst (.block 0 (.loop xf147l0))) := rfl
  have eA : Ends (Run X (.code xf147.body.fst) (frame [.yld m, .iptr [.int .i64 (sq 0).a, .int .i64 (sq 0).b, .int .i64 (sq 0).c, .int .i64 (sq 0).d] 0, .iptr [w] 0, .iptr [.fn gf a c] 0] 24) σ0) .normal fun tm σ => tm.length = 24 ∧ XOpd.eval tm (.t 0) = .yld m ∧ XOpd.eval tm (.t 2) = .iptr [w] 0 ∧ XOpd.eval tm (.t 3) = .iptr [.fn gf a c] 0 ∧ XOpd.eval tm (.t 5) = .ptr σ0.next 0 ∧
      σ = (σ0.new (.cells [.int .i64 0, .int .i64 0, .int .i64 0, .int .i64 0])).put σ0.next (.cells [.int .i64 (sq 0).a, .int .i64 (sq 0).b, .int .i64 (sq 0).c, .int .i64 (sq 0).d]) := by
    have f3 : XOpd.eval (frame [.yld m, .iptr [.int .i64 (sq 0).a, .int .i64 (sq 0).b, .int .i64 (sq 0).c, .int .i64 (sq 0).d] 0, .iptr [w] 0, .iptr [.fn gf a c] 0] 24) (.t 3) = .iptr [.fn gf a c] 0 := by simp [frame, XOpd.eval]
    simp [xf147, XCode.fst, f3, AVal.cells, put_next, new_next, Store.get_new, Store.get_put, put_get, setR, only_get, merge_get', only_next, merge_next, upTo_self, upTo_one, merge_only, touch, wrote, isIn, okRec, hits, capsOf, xcaps, stripL, AVal.strip, freeL, AVal.free, fillR, chunks, mkV]
  obtain ⟨o1, o2, o3, o4, o5, o6, o7⟩ := out_of eA
  generalize outT X xf147.body.fst (frame [.yld m, .iptr [.int .i64 (sq 0).a, .int .i64 (sq 0).b, .int .i64 (sq 0).c, .int .i64 (sq 0).d] 0, .iptr [w] 0, .iptr [.fn gf a c] 0] 24) σ0 = tm1 at *
  generalize outS X xf147.body.fst (frame [.yld m, .iptr [.int .i64 (sq 0).a, .int .i64 (sq 0).b, .int .i64 (sq 0).c, .int .i64 (sq 0).d] 0, .iptr [w] 0, .iptr [.fn gf a c] 0] 24) σ0 = σ1 at *
  have eB : Ends (Run X (.code xf147.body.snd.fst) tm1 σ1) .normal fun tm σ => tm.length = 24 ∧ XOpd.eval tm (.t 0) = .yld m ∧ XOpd.eval tm (.t 3) = .iptr [.fn gf a c] 0 ∧ XOpd.eval tm (.t 5) = .ptr σ0.next 0 ∧ XOpd.eval tm (.t 9) = w ∧ XOpd.eval tm (.t 10) = .int .i64 L.length ∧ XOpd.eval tm (.t 11) = .int .i64 0 ∧ σ = σ1 := by
    simp [xf147, XCode.fst, XCode.snd, o2, o3, o4, o5, o6, hx, AVal.cells, put_next, new_next, Store.get_new, Store.get_put, put_get, setR, only_get, merge_get', only_next, merge_next, upTo_self, upTo_one, merge_only, touch, wrote, isIn, okRec, hits, capsOf, xcaps, stripL, AVal.strip, freeL, AVal.free, fillR, chunks, mkV]
  obtain ⟨q1, q2, q3, q4, q5, q6, q7, q8, q9⟩ := out_of eB
  generalize outT X xf147.body.snd.fst tm1 σ1 = tm2 at *
  generalize outS X xf147.body.snd.fst tm1 σ1 = σ2 at *
  subst q9
  have nxt : σ2.next = σ0.next + 1 := by rw [o7]; simp [Store.new, Store.put]
  have far : ∀ k, k ≠ σ0.next → σ2.get k = σ0.get k := fun k hk => by
    rw [o7, Store.get_put, Mem.put_ne _ (Ne.symm hk), Store.get_new, Mem.put_ne _ (Ne.symm hk)]
  have gq : σ2.get σ0.next = some (.cells [.int .i64 (sq 0).a, .int .i64 (sq 0).b, .int .i64 (sq 0).c, .int .i64 (sq 0).d]) := by rw [o7, Store.get_put, Mem.put_self]
  obtain ⟨tm3, σ3, p1, p2⟩ := loop147 (X := X) (L := L) (w := w) (hw.elim (fun h => .inr h.1) .inl) hn hs (m := m) (q := σ0.next) (J := J) hst
    (fun i σ hi hJ hq => hrd i _ σ (by rw [List.getElem?_map, List.getElem?_range hi]; rfl) hJ hq) L.length 0 (by omega) tm2 σ2 q2 q3 q4 q5 q6 q7 q8 gq (by omega) (hst 0 σ0 σ2 hJ0 (fun k h1 h2 => far k h1) (by omega))
  have hnp : freeL (stripL ([] ++ [.yld m] ++ [.iptr [.int .i64 (sq 0).a, .int .i64 (sq 0).b, .int .i64 (sq 0).c, .int .i64 (sq 0).d] 0, .iptr [w] 0, .iptr [.fn gf a c] 0])) = false := by simp [stripL, AVal.strip, freeL, AVal.free]
  refine ⟨σ3, ?_, by simpa using p2⟩
  rw [call_np hX.h147 hnp]
  show npC σ0 [] (Run X (.code xf147.body) (frame [.yld m, .iptr [.int .i64 (sq 0).a, .int .i64 (sq 0).b, .int .i64 (sq 0).c, .int .i64 (sq 0).d] 0, .iptr [w] 0, .iptr [.fn gf a c] 0] 24) σ0) = _
  rw [e0, Run_seq, o1, thenC_normal, Run_seq, q1, thenC_normal, Run_block, p1, blockC_exit]
  rfl
end
end Go.Proofs.Ytlknncjnfgnlaaa.Eng

/-
  SURGE: checks of loads; runs of the program.
-/
namespace Go.Proofs.Ytlknncjnfgnlaaa.Eng
set_option linter.unusedSimpArgs false
set_option linter.unusedVariables false
def IL (L : List Int) (w : AVal) : Prop := (L = [] ∧ w = .nils) ∨ w = .list 1 (ints L) none
theorem ints_fr (L : List Int) : freeL (ints L) = true := ints_free L
theorem IL.strip {L : List Int} {w : AVal} (h : IL L w) : w.strip = w := by
  rcases h with ⟨_, rfl⟩ | rfl
  · rfl
  · simp [AVal.strip, freeL_strip (ints_fr L)]
theorem IL.free {L : List Int} {w : AVal} (h : IL L w) : w.free = true := by
  rcases h with ⟨_, rfl⟩ | rfl
  · rfl
  · simp [AVal.free, ints_fr L]
theorem IL.one {L : List Int} {w : AVal} (h : IL L w) : w.one = true := by
  rcases h with ⟨_, rfl⟩ | rfl <;> rfl
theorem IL.cells {L : List Int} {w : AVal} (h : IL L w) : w.cells = [w] := by
  rcases h with ⟨_, rfl⟩ | rfl <;> rfl
theorem IL.xlen {L : List Int} {w : AVal} (h : IL L w) : Go.Proofs.Ytlknncjnfgnlaaa.Eng.xlen w = some (.int .i64 L.length) := by
  rcases h with ⟨rfl, rfl⟩ | rfl
  · rfl
  · simp [Go.Proofs.Ytlknncjnfgnlaaa.Eng.xlen, ints]
theorem IL.list {L : List Int} {w : AVal} (h : IL L w) (h0 : 0 < L.length) : w = .list 1 (ints L) none := by
  rcases h with ⟨rfl, rfl⟩ | rfl
  · simp at h0
  · rfl
theorem ints_get {L : List Int} {i : Nat} (h : i < L.length) : (ints L)[i]? = some (.int .i64 L[i]) := by simp [ints, h]
def ixF : List Int → Nat → Int
  | [], _ => 0
  | e :: l, i => if e = 0 then ixF l (i + 1) else i
def feL (L : List Int) : Int := firstNZ (L.map ldE)
def lsE (L : List Int) : Int := if 200 < L.length then 8 else feL L
theorem feL_ok {L : List Int} (h : feL L = 0) : ∀ u ∈ L, ldE u = 0 := by
  unfold feL at h
  induction L with
  | nil => intro u hu; cases hu
  | cons x l ih =>
    simp only [List.map_cons, firstNZ] at h
    split at h
    · rename_i hx
      intro u hu
      rcases List.mem_cons.1 hu with rfl | hu
      · exact hx
      · exact ih h u hu
    · rename_i hx; exact absurd h hx
theorem lsE_ok {L : List Int} (h : lsE L = 0) : L.length ≤ 200 ∧ ∀ i, i < L.length → 0 ≤ L.getD i 0 ∧ L.getD i 0 ≤ 1000 := by
  unfold lsE at h
  split at h
  · omega
  · refine ⟨by omega, fun i hi => ?_⟩
    have := feL_ok h (L.getD i 0) (by simp [hi])
    unfold ldE at this
    split at this
    · rename_i d; exact win_iff.1 d
    · omega
section
variable {X : FuncId → Option XFunc} (hX : SuCCode X)
include hX
theorem u25 {L : List Int} {w : AVal} (h : IL L w) (hn : L.length ≤ 1000000) : ∃ w', IL L w' ∧ ∀ σ, Run X (.call 25) [w] σ = some (.ret, [w'], σ) := by
  have b1 : L.length * 8 ≤ 1000000000000 := by omega
  have b2 : L.length ≤ 1000000000000 := by omega
  refine ⟨.list 1 (ints L) none, .inr rfl, fun σ => ?_⟩
  rcases h with ⟨rfl, rfl⟩ | rfl
  · refine call1 (v := .list 1 (ints []) (some 0)) hX.h25 rfl (by decide) (fun tm hl h0 => ?_) rfl σ
    simp only [AVal.strip] at h0
    replace hl : tm.length = 6 := hl
    unfold Gives
    simp [xf25, hl, h0, xappend, AVal.isSlice, ints, Store.empty, Store.new, Store.put, Store.get, look, putL, setR, Store.only, Store.merge, touch, wrote, upTo, isIn, okRec, hits, capsOf, xcaps, stripL, AVal.strip, freeL, AVal.free, fillR, chunks, mkV, List.filter]
  · have := call1 (a := .list 1 (ints L) none) (v := .list 1 (ints L) (some 0)) hX.h25 (by simp [AVal.strip, AVal.free, freeL_strip (ints_fr L), ints_fr]) (by decide) (fun tm hl h0 => ?_) (by simp [AVal.strip, AVal.free, freeL_strip (ints_fr L), ints_fr]) σ
    · simpa [AVal.strip, freeL_strip (ints_fr L)] using this
    simp only [AVal.strip, freeL_strip (ints_fr L)] at h0
    replace hl : tm.length = 6 := hl
    have ho : ones (ints L) = true := by simp [ones, ints, AVal.cells, AVal.one]
    unfold Gives
    cases L with
    | nil => simp [xf25, hl, h0, xappend, AVal.isSlice, ints, ones, Store.empty, Store.new, Store.put, Store.get, look, putL, setR, Store.only, Store.merge, touch, wrote, upTo, isIn, okRec, hits, capsOf, xcaps, stripL, AVal.strip, freeL, AVal.free, fillR, chunks, mkV, List.filter]
    | cons x l =>
      simp only [ints, List.map_cons, List.length_cons] at *
      simp [xf25, hl, h0, xappend, ho, b1, b2, AVal.isSlice, Store.empty, Store.new, Store.put, Store.get, look, putL, setR, Store.only, Store.merge, touch, wrote, upTo, isIn, okRec, hits, capsOf, xcaps, stripL, AVal.strip, freeL, AVal.free, fillR, chunks, mkV, List.filter]
theorem u23 {L : List Int} {w : AVal} (h : IL L w) (σ : Store) : Run X (.call 23) [w] σ = some (.ret, [.bool (decide ((L.length : Int) ≤ 40) || (decide (200 < (L.length : Int)) && decide ((L.length : Int) ≤ 202)))], σ) := by
  refine call1 (v := .bool (decide ((L.length : Int) ≤ 40) || (decide (200 < (L.length : Int)) && decide ((L.length : Int) ≤ 202)))) hX.h23 (by rw [h.strip]; exact h.free) (by decide) (fun tm hl h0 => ?_) rfl σ
  rw [h.strip] at h0
  replace hl : tm.length = 16 := hl
  have hx := h.xlen
  unfold Gives
  by_cases c1 : (L.length : Int) ≤ 40
  · simp [xf23, hl, h0, hx, c1, Store.empty, Store.new, Store.put, Store.get, look, putL, setR, Store.only, Store.merge, touch, wrote, upTo, isIn, okRec, hits, capsOf, xcaps, stripL, AVal.strip, freeL, AVal.free, fillR, chunks, mkV, List.filter]
  · by_cases c2 : 200 < (L.length : Int) <;> simp [xf23, hl, h0, hx, c1, c2, Store.empty, Store.new, Store.put, Store.get, look, putL, setR, Store.only, Store.merge, touch, wrote, upTo, isIn, okRec, hits, capsOf, xcaps, stripL, AVal.strip, freeL, AVal.free, fillR, chunks, mkV, List.filter]
theorem loop131 (L : List Int) {w : AVal} (hw : IL L w) (hn : L.length ≤ 1000000000) : ∀ (k i : Nat), i + k = L.length → ∀ (tm : List AVal) (σ : Store), tm.length = 24 → XOpd.eval tm (.t 1) = .fn 76 [] [] → XOpd.eval tm (.t 9) = w → XOpd.eval tm (.t 10) = .int .i64 L.length → XOpd.eval tm (.t 11) = .int .i64 i →
    Ends (Run X (.code (.loop xf131l0)) tm σ) (if feL (L.drop i) = 0 then .exit 0 else .ret) fun tm' _ => tm'.length = 24 ∧ (feL (L.drop i) ≠ 0 → XOpd.eval tm' (.t 4) = .int .i64 (ixF ((L.drop i).map ldE) i) ∧ XOpd.eval tm' (.t 5) = .int .i64 (feL (L.drop i)))
  | 0, i, hk, tm, σ, hl, h1, h9, h10, h11 => by
    have hi : i = L.length := by omega
    subst hi
    rw [Run_loop]
    simp [xf131l0, hl, h10, h11, firstNZ, feL]
  | k + 1, i, hk, tm, σ, hl, h1, h9, h10, h11 => by
    have hA := hX.suB.suA
    have hi : i < L.length := by omega
    have hd : L.drop i = L[i] :: L.drop (i + 1) := List.drop_eq_getElem_cons hi
    have hiw : IntKind.i64.wrap ((i : Int) + 1) = ((i + 1 : Nat) : Int) := by rw [wrap_i64] <;> omega
    have hwl := hw.list (by omega)
    subst hwl
    have hg := ints_get hi
    have u76 := u76 hA L[i]
    rw [hd]
    by_cases he : ldE L[i] = 0
    · have ih := loop131 L hw hn k (i + 1) (by omega)
      have key : Ends (Run X (.code xf131l0) tm σ) .normal fun tm' _ => tm'.length = 24 ∧ XOpd.eval tm' (.t 1) = .fn 76 [] [] ∧ XOpd.eval tm' (.t 9) = .list 1 (ints L) none ∧ XOpd.eval tm' (.t 10) = .int .i64 L.length ∧ XOpd.eval tm' (.t 11) = .int .i64 ((i + 1 : Nat) : Int) := by
        simp [xf131l0, hl, h1, h9, h10, h11, hi, hg, he, u76, hiw, xload, AVal.cells]
      obtain ⟨o1, o2, o3, o4, o5, o6⟩ := out_of key
      rw [Run_loop, o1, thenC_normal]
      simp only [feL, ixF, firstNZ, List.map_cons, he, if_true] at ih ⊢
      exact ih _ _ o2 o3 o4 o5 o6
    · rw [Run_loop]
      simp only [feL, ixF, firstNZ, List.map_cons, he, if_false]
      simp [xf131l0, hl, h1, h9, h10, h11, hi, hg, he, u76, xload, AVal.cells]
theorem u131 {L : List Int} {w : AVal} (h : IL L w) (hn : L.length ≤ 1000000000) (σ : Store) : Run X (.call 131) [w, .fn 76 [] []] σ = some (.ret, [.tup [.int .i64 (if feL L = 0 then 0 else ixF (L.map ldE) 0), .int .i64 (feL L)]], σ) := by
  have hL := fun tm σ h1 h2 h3 h4 h5 => out_of (loop131 hX L h hn L.length 0 (by omega) tm σ h1 h2 h3 h4 h5)
  simp only [List.drop_zero] at hL
  have hx := h.xlen
  by_cases he : feL L = 0
  · simp only [he, if_true] at hL ⊢
    refine call2 (v := .tup [.int .i64 0, .int .i64 0]) hX.h131 (by rw [h.strip]; exact h.free) rfl (by decide) (fun tm hl h0 h1 => ?_) rfl σ
    rw [h.strip] at h0
    simp only [AVal.strip, stripL] at h1
    replace hl : tm.length = 24 := hl
    unfold Gives
    simp (maxDischargeDepth := 9) [xf131, hl, h0, h1, hx, hL, he, xresult, xrets]
  · simp only [he, if_false] at hL ⊢
    refine call2 (v := .tup [.int .i64 (ixF (L.map ldE) 0), .int .i64 (feL L)]) hX.h131 (by rw [h.strip]; exact h.free) rfl (by decide) (fun tm hl h0 h1 => ?_) rfl σ
    rw [h.strip] at h0
    simp only [AVal.strip, stripL] at h1
    replace hl : tm.length = 24 := hl
    unfold Gives
    simp (maxDischargeDepth := 9) [xf131, hl, h0, h1, hx, hL, he, xresult, xrets]
theorem u84 {L : List Int} {w : AVal} (h : IL L w) (hn : L.length ≤ 1000000000) (σ : Store) : Run X (.call 84) [w] σ = some (.ret, [.int .i64 (lsE L)], σ) := by
  have u131 := u131 hX h hn
  have hx := h.xlen
  have u123 : ∀ σ, Run X (.call 123) [w, .int .i64 200, .fn 76 [] []] σ = some (.ret, [.int .i64 (lsE L)], σ) := fun σ => by
    refine call3 (v := .int .i64 (lsE L)) hX.h123 (by rw [h.strip]; exact h.free) rfl rfl (by decide) (fun tm hl h0 h1 h2 => ?_) rfl σ
    rw [h.strip] at h0
    simp only [AVal.strip, stripL] at h1 h2
    replace hl : tm.length = 20 := hl
    unfold Gives lsE
    by_cases c : 200 < L.length
    · have c' : (200 : Int) < L.length := by omega
      simp [xf123, hl, h0, h1, h2, hx, c, c', Store.empty, Store.new, Store.put, Store.get, look, putL, setR, Store.only, Store.merge, touch, wrote, upTo, isIn, okRec, hits, capsOf, xcaps, stripL, AVal.strip, freeL, AVal.free, fillR, chunks, mkV, List.filter]
    · have c' : ¬ (200 : Int) < L.length := by omega
      simp [xf123, hl, h0, h1, h2, hx, c, c', u131, Store.empty, Store.new, Store.put, Store.get, look, putL, setR, Store.only, Store.merge, touch, wrote, upTo, isIn, okRec, hits, capsOf, xcaps, stripL, AVal.strip, freeL, AVal.free, fillR, chunks, mkV, List.filter]
  refine call1 (v := .int .i64 (lsE L)) hX.h84 (by rw [h.strip]; exact h.free) (by decide) (fun tm hl h0 => ?_) rfl σ
  rw [h.strip] at h0
  replace hl : tm.length = 5 := hl
  unfold Gives
  simp [xf84, hl, h0, u123, Store.empty, Store.new, Store.put, Store.get, look, putL, setR, Store.only, Store.merge, touch, wrote, upTo, isIn, okRec, hits, capsOf, xcaps, stripL, AVal.strip, freeL, AVal.free, fillR, chunks, mkV, List.filter]
theorem loop28 (L : List Int) {w : AVal} (hw : IL L w) (hn : L.length ≤ 1000000000) : ∀ (k i : Nat), i + k = L.length → ∀ (tm : List AVal) (σ : Store), tm.length = 22 → XOpd.eval tm (.t 0) = w → XOpd.eval tm (.t 3) = .int .i64 i →
    Ends (Run X (.code (.loop xf28l0)) tm σ) (if feL (L.drop i) = 0 then .exit 0 else .ret) fun tm' _ => tm'.length = 22 ∧ (feL (L.drop i) ≠ 0 → XOpd.eval tm' (.t 2) = .int .i64 (feL (L.drop i)))
  | 0, i, hk, tm, σ, hl, h0, h3 => by
    have hi : i = L.length := by omega
    subst hi
    have hx := hw.xlen
    rw [Run_loop]
    simp [xf28l0, hl, h0, h3, hx, firstNZ, feL]
  | k + 1, i, hk, tm, σ, hl, h0, h3 => by
    have hA := hX.suB.suA
    have hi : i < L.length := by omega
    have hd : L.drop i = L[i] :: L.drop (i + 1) := List.drop_eq_getElem_cons hi
    have hiw : IntKind.i64.wrap ((i : Int) + 1) = ((i + 1 : Nat) : Int) := by rw [wrap_i64] <;> omega
    have hx := hw.xlen
    have hwl := hw.list (by omega)
    subst hwl
    have hg := ints_get hi
    have u20 := u20 hA L[i]
    rw [hd]
    by_cases he : ldE L[i] = 0
    · have ih := loop28 L hw hn k (i + 1) (by omega)
      have key : Ends (Run X (.code xf28l0) tm σ) .normal fun tm' _ => tm'.length = 22 ∧ XOpd.eval tm' (.t 0) = .list 1 (ints L) none ∧ XOpd.eval tm' (.t 3) = .int .i64 ((i + 1 : Nat) : Int) := by
        simp [xf28l0, hl, h0, h3, hx, hi, hg, he, u20, hiw, xload, AVal.cells]
      obtain ⟨o1, o2, o3, o4⟩ := out_of key
      rw [Run_loop, o1, thenC_normal]
      simp only [feL, firstNZ, List.map_cons, he, if_true] at ih ⊢
      exact ih _ _ o2 o3 o4
    · rw [Run_loop]
      simp only [feL, firstNZ, List.map_cons, he, if_false]
      simp [xf28l0, hl, h0, h3, hx, hi, hg, he, u20, xload, AVal.cells]
theorem u28 {L : List Int} {w : AVal} (h : IL L w) (hn : L.length ≤ 1000000000) (σ : Store) : Run X (.call 28) [w] σ = some (.ret, [.int .i64 (lsE L)], σ) := by
  have hL := fun tm σ h1 h2 h3 => out_of (loop28 hX L h hn L.length 0 (by omega) tm σ h1 h2 h3)
  simp only [List.drop_zero] at hL
  have hx := h.xlen
  refine call1 (v := .int .i64 (lsE L)) hX.h28 (by rw [h.strip]; exact h.free) (by decide) (fun tm hl h0 => ?_) rfl σ
  rw [h.strip] at h0
  replace hl : tm.length = 22 := hl
  unfold Gives lsE
  by_cases c : 200 < L.length
  · have c' : (200 : Int) < L.length := by omega
    simp [xf28, hl, h0, hx, c, c', Store.empty, Store.new, Store.put, Store.get, look, putL, setR, Store.only, Store.merge, touch, wrote, upTo, isIn, okRec, hits, capsOf, xcaps, stripL, AVal.strip, freeL, AVal.free, fillR, chunks, mkV, List.filter]
  · have c' : ¬ (200 : Int) < L.length := by omega
    have c0 : ((0 : Nat) : Int) = 0 := rfl
    simp only [c0] at hL
    by_cases he : feL L = 0
    · simp only [he, if_true] at hL
      simp (maxDischargeDepth := 9) [xf28, hl, h0, hx, c, c', hL, he, Store.empty, Store.new, Store.put, Store.get, look, putL, setR, Store.only, Store.merge, touch, wrote, upTo, isIn, okRec, hits, capsOf, xcaps, stripL, AVal.strip, freeL, AVal.free, fillR, chunks, mkV, List.filter]
    · simp only [he, if_false] at hL
      simp (maxDischargeDepth := 9) [xf28, hl, h0, hx, c, c', hL, he, Store.empty, Store.new, Store.put, Store.get, look, putL, setR, Store.only, Store.merge, touch, wrote, upTo, isIn, okRec, hits, capsOf, xcaps, stripL, AVal.strip, freeL, AVal.free, fillR, chunks, mkV, List.filter]
end
end Go.Proofs.Ytlknncjnfgnlaaa.Eng

/-
  SURGE: runs of states and of boxes, of the program.
-/
namespace Go.Proofs.Ytlknncjnfgnlaaa.Eng
set_option linter.unusedSimpArgs false
set_option linter.unusedVariables false
def sS (r : Ru) (s : Int × Int) (k : Int) (L : List Int) : Nat → Int × Int
  | 0 => s
  | i + 1 => stepS r (sS r s k L i) (L.getD i 0) k
def sB (r : Ru) (b : Bx) (L : List Int) : Nat → Bx
  | 0 => b
  | i + 1 => boxS r (sB r b L i) (L.getD i 0)
def stL (r : Ru) (s : Int × Int) (k : Int) (L : List Int) (n : Nat) : List (Int × Int) := (List.range n).map fun i => sS r s k L (i + 1)
def bxL (r : Ru) (b : Bx) (L : List Int) (n : Nat) : List Bx := (List.range n).map fun i => sB r b L (i + 1)
def rnE (r : Ru) (s : Int × Int) (L : List Int) (k : Int) : Int := if r.e = 0 then (if stE s = 0 then (if lsE L = 0 then frE r k else lsE L) else stE s) else r.e
def brE (r : Ru) (b : Bx) (L : List Int) : Int := if r.e = 0 then (if bxE b = 0 then lsE L else bxE b) else r.e
theorem rnE_eq (r : Ru) (s : Int × Int) (L : List Int) (k : Int) : rnE r s L k = firstNZ [r.e, stE s, lsE L, frE r k] := by
  unfold rnE
  by_cases d1 : r.e = 0 <;> by_cases d2 : stE s = 0 <;> by_cases d3 : lsE L = 0 <;> by_cases d4 : frE r k = 0 <;> simp [d1, d2, d3, d4, firstNZ]
theorem brE_eq (r : Ru) (b : Bx) (L : List Int) : brE r b L = firstNZ [r.e, bxE b, lsE L] := by
  unfold brE
  by_cases d1 : r.e = 0 <;> by_cases d2 : bxE b = 0 <;> by_cases d3 : lsE L = 0 <;> simp [d1, d2, d3, firstNZ]
/-- What a run needs. -/
structure RIn (r : Ru) (s : Int × Int) (L : List Int) (k : Int) : Prop where
  ok : r.Ok
  z0 : -100000 ≤ s.1
  z1 : s.1 ≤ 100000
  q0 : -1000 ≤ s.2
  q1 : s.2 ≤ 1000
  n : L.length ≤ 200
  u : ∀ i, i < L.length → 0 ≤ L.getD i 0 ∧ L.getD i 0 ≤ 1000
  k0 : r.lo ≤ k
  k1 : k ≤ r.hi
theorem rnE_in {r : Ru} {s : Int × Int} {L : List Int} {k : Int} (h : rnE r s L k = 0) : RIn r s L k := by
  unfold rnE at h
  split at h <;> try contradiction
  rename_i h0
  split at h <;> try contradiction
  rename_i h1
  split at h <;> try contradiction
  rename_i h2
  obtain ⟨n, u⟩ := lsE_ok h2
  unfold stE at h1; unfold frE at h
  split at h1 <;> try omega
  rename_i c1
  split at h <;> try omega
  rename_i c2
  simp only [Bool.and_eq_true, win_iff] at c1 c2
  exact ⟨Ru.ok h0, by omega, by omega, by omega, by omega, n, u, by omega, by omega⟩
theorem RIn.at {r : Ru} {s : Int × Int} {L : List Int} {k : Int} (h : RIn r s L k) : ∀ i, i ≤ L.length → -100000 - 2000 * (i : Int) ≤ (sS r s k L i).1 ∧ (sS r s k L i).1 ≤ 100000 + 2000 * (i : Int) ∧ -1000 ≤ (sS r s k L i).2 ∧ (sS r s k L i).2 ≤ 1000
  | 0, _ => by
    have z0 := h.z0; have z1 := h.z1; have q0 := h.q0; have q1 := h.q1
    simp only [sS]; omega
  | i + 1, hi => by
    obtain ⟨a1, a2, a3, a4⟩ := h.at i (by omega)
    have u := h.u i (by omega)
    have n := h.n; have lo := h.ok.lo; have hh := h.ok.hi; have k0 := h.k0; have k1 := h.k1
    have o := s_out (r := r) (s := sS r s k L i) (u := L.getD i 0) (k := k) ⟨h.ok, by omega, by omega, a3, a4, u.1, u.2, by omega, by omega⟩
    have d0 := o.d0; have d1 := o.d1; have c0 := o.c0; have c1 := o.c1
    have e1 : (sS r s k L (i + 1)).1 = (sS r s k L i).1 + (stepQ r (sS r s k L i) (L.getD i 0) k - L.getD i 0) / r.a := rfl
    have e2 : (sS r s k L (i + 1)).2 = stepQ r (sS r s k L i) (L.getD i 0) k := rfl
    rw [e1, e2]
    omega
theorem RIn.sin {r : Ru} {s : Int × Int} {L : List Int} {k : Int} (h : RIn r s L k) (i : Nat) (hi : i < L.length) : SIn r (sS r s k L i) (L.getD i 0) k := by
  obtain ⟨a1, a2, a3, a4⟩ := h.at i (by omega)
  have u := h.u i hi
  have n := h.n; have lo := h.ok.lo; have hh := h.ok.hi; have k0 := h.k0; have k1 := h.k1
  exact ⟨h.ok, by omega, by omega, a3, a4, u.1, u.2, by omega, by omega⟩
structure QIn (r : Ru) (b : Bx) (L : List Int) : Prop where
  ok : r.Ok
  b : BxOk b
  n : L.length ≤ 200
  u : ∀ i, i < L.length → 0 ≤ L.getD i 0 ∧ L.getD i 0 ≤ 1000
theorem brE_in {r : Ru} {b : Bx} {L : List Int} (h : brE r b L = 0) : QIn r b L := by
  unfold brE at h
  split at h <;> try contradiction
  rename_i h0
  split at h <;> try contradiction
  rename_i h1
  obtain ⟨n, u⟩ := lsE_ok h
  exact ⟨Ru.ok h0, bx_ok h1, n, u⟩
theorem lev_near {r : Ru} {s : Int × Int} {u k : Int} (i : SIn r s u k) : s.1 - 2000 ≤ (stepS r s u k).1 ∧ (stepS r s u k).1 ≤ s.1 + 2000 := by
  have o := s_out i
  have d0 := o.d0; have d1 := o.d1
  have e : (stepS r s u k).1 = s.1 + (stepQ r s u k - u) / r.a := rfl
  rw [e]; omega
theorem QIn.at {r : Ru} {b : Bx} {L : List Int} (h : QIn r b L) : ∀ i, i ≤ L.length → (-100000 - 2000 * (i : Int) ≤ (sB r b L i).a ∧ (sB r b L i).a ≤ 100000 + 2000 * (i : Int)) ∧ (-100000 - 2000 * (i : Int) ≤ (sB r b L i).b ∧ (sB r b L i).b ≤ 100000 + 2000 * (i : Int)) ∧ (-1000 ≤ (sB r b L i).c ∧ (sB r b L i).c ≤ 1000) ∧ (-1000 ≤ (sB r b L i).d ∧ (sB r b L i).d ≤ 1000)
  | 0, _ => by
    have b := h.b
    have a0 := b.a0; have a1 := b.a1; have b0 := b.b0; have b1 := b.b1; have c0 := b.c0; have c1 := b.c1; have d0 := b.d0; have d1 := b.d1
    simp only [sB]; omega
  | i + 1, hi => by
    obtain ⟨a, b', c, d⟩ := h.at i (by omega)
    have u := h.u i (by omega)
    have n := h.n
    have bi : BIn r (sB r b L i) (L.getD i 0) := ⟨h.ok, by omega, by omega, by omega, by omega, c.1, c.2, d.1, d.2, u.1, u.2⟩
    have x1 := lev_near (corner bi (.inl rfl) (.inl rfl) (.inl rfl)); have x2 := lev_near (corner bi (.inl rfl) (.inl rfl) (.inr rfl))
    have x3 := lev_near (corner bi (.inr rfl) (.inr rfl) (.inl rfl)); have x4 := lev_near (corner bi (.inr rfl) (.inr rfl) (.inr rfl))
    have f := fun s k => flow_in r s (L.getD i 0) k
    have y1 := f ((sB r b L i).b, (sB r b L i).c) r.lo; have y2 := f ((sB r b L i).b, (sB r b L i).c) r.hi
    have y3 := f ((sB r b L i).a, (sB r b L i).d) r.lo; have y4 := f ((sB r b L i).a, (sB r b L i).d) r.hi
    simp only at x1 x2 x3 x4
    simp only [sB, boxS, imin, imax]
    refine ⟨⟨?_, ?_⟩, ⟨?_, ?_⟩, ⟨?_, ?_⟩, ⟨?_, ?_⟩⟩ <;> split <;> omega
theorem QIn.bin {r : Ru} {b : Bx} {L : List Int} (h : QIn r b L) (i : Nat) (hi : i < L.length) : BIn r (sB r b L i) (L.getD i 0) := by
  obtain ⟨a, b', c, d⟩ := h.at i (by omega)
  have u := h.u i (by omega)
  have n := h.n
  exact ⟨h.ok, by omega, by omega, by omega, by omega, c.1, c.2, d.1, d.2, u.1, u.2⟩
theorem bxs_free (l : List Bx) : freeL (l.map Bx.enc) = true := by
  induction l with
  | nil => rfl
  | cons e l ih => simp [freeL, AVal.free, Bx.enc, ih]
theorem range_map {α β : Type} (f : Nat → α) (g : α → β) (n : Nat) : ((List.range n).map f).map g = (List.range n).map fun i => g (f i) := by rw [List.map_map]; rfl
section
variable {X : FuncId → Option XFunc} (hX : SuCCode X)
include hX
theorem u126 {r : Ru} {s : Int × Int} {u k : Int} (i : SIn r s u k) {L : List Int} {w : AVal} (h : IL L w) (σ : Store) : Run X (.call 126) [st s, .int .i64 u, .iptr [.int .i64 r.n, .int .i64 r.a, .int .i64 r.lo, .int .i64 r.hi, .int .i64 r.th, .int .i64 r.lo, .int .i64 r.hi] 0, .iptr [w, .int .i64 k] 0] σ = some (.ret, [st (stepS r s u k)], σ) := by
  have f := u78 hX.suB.suA i
  simp only [Ru.ch, st] at f
  refine call4 (a := st s) (v := st (stepS r s u k)) hX.h126 rfl rfl rfl (by simp [AVal.strip, stripL, AVal.free, freeL, h.strip, h.free]) (by decide) (fun tm hl h0 h1 h2 h3 => ?_) rfl σ
  simp only [AVal.strip, stripL, st, h.strip] at h0 h1 h2 h3
  replace hl : tm.length = 13 := hl
  unfold Gives
  simp [xf126, hl, h0, h1, h2, h3, f, st, Store.empty, Store.new, Store.put, Store.get, look, putL, setR, Store.only, Store.merge, touch, wrote, upTo, isIn, okRec, hits, capsOf, xcaps, stripL, AVal.strip, freeL, AVal.free, fillR, chunks, mkV, List.filter]
theorem u86 {r : Ru} {s : Int × Int} {k : Int} {L : List Int} {w : AVal} (h : IL L w) (σ : Store) : Run X (.call 86) [r.ch, st s, .agg [w, .int .i64 k]] σ = some (.ret, [.fn 146 [] [.iptr [.int .i64 s.1, .int .i64 s.2] 0, .iptr [w] 0, .iptr [.fn 126 [] [.iptr [.int .i64 r.n, .int .i64 r.a, .int .i64 r.lo, .int .i64 r.hi, .int .i64 r.th, .int .i64 r.lo, .int .i64 r.hi] 0, .iptr [w, .int .i64 k] 0]] 0]], σ) := by
  have hfw := h.free; have hsw := h.strip; have how := h.one; have hcw := h.cells
  have fI := ints_fr L
  have u125 : ∀ g c, stripL c = c → freeL c = true → ∀ σ, Run X (.call 125) [.agg [.int .i64 s.1, .int .i64 s.2], w, .fn g [] c] σ = some (.ret, [.fn 146 [] [.iptr [.int .i64 s.1, .int .i64 s.2] 0, .iptr [w] 0, .iptr [.fn g [] c] 0]], σ) := fun g c hs1 hf1 σ => by
    obtain ⟨f, hfe⟩ : ∃ f, f = AVal.fn g [] c := ⟨_, rfl⟩
    rw [← hfe]
    have hs : f.strip = f := by rw [hfe]; simp [AVal.strip, stripL, hs1]
    have hf : f.free = true := by rw [hfe]; simp [AVal.free, freeL, hf1]
    have := call3 (X := X) (a := .agg [.int .i64 s.1, .int .i64 s.2]) (b := w) (c := f) (v := .fn 146 [] [.iptr [.int .i64 s.1, .int .i64 s.2] 0, .iptr [w] 0, .iptr [f] 0]) hX.h125 rfl (by rw [hsw]; exact hfw) (by rw [hs]; exact hf) (by decide) (fun tm hl h0 h1 h2 => ?_) (by simp [AVal.strip, stripL, AVal.free, freeL, hsw, hfw, hs, hf]) σ
    · simpa [AVal.strip, stripL, hsw, hs] using this
    simp only [AVal.strip, stripL, hsw, hs] at h0 h1 h2
    replace hl : tm.length = 8 := hl
    unfold Gives
    subst hfe
    rcases h with ⟨_, rfl⟩ | rfl <;> simp [xf125, hl, h0, h1, h2, hf1, fI, AVal.cells, Store.empty, Store.new, Store.put, Store.get, look, putL, setR, Store.only, Store.merge, touch, wrote, upTo, isIn, okRec, hits, capsOf, xcaps, stripL, AVal.strip, freeL, AVal.free, fillR, chunks, mkV, List.filter]
  have := call3 (X := X) (a := r.ch) (b := st s) (c := .agg [w, .int .i64 k]) (v := .fn 146 [] [.iptr [.int .i64 s.1, .int .i64 s.2] 0, .iptr [w] 0, .iptr [.fn 126 [] [.iptr [.int .i64 r.n, .int .i64 r.a, .int .i64 r.lo, .int .i64 r.hi, .int .i64 r.th, .int .i64 r.lo, .int .i64 r.hi] 0, .iptr [w, .int .i64 k] 0]] 0]) hX.h86 rfl rfl (by simp [AVal.strip, stripL, AVal.free, freeL, hsw, hfw]) (by decide) (fun tm hl h0 h1 h2 => ?_) (by simp [AVal.strip, stripL, AVal.free, freeL, hsw, hfw]) σ
  · simpa [AVal.strip, stripL, hsw] using this
  simp only [AVal.strip, stripL, Ru.ch, st, hsw] at h0 h1 h2
  replace hl : tm.length = 12 := hl
  have u125 := u125 126 [.iptr [.int .i64 r.n, .int .i64 r.a, .int .i64 r.lo, .int .i64 r.hi, .int .i64 r.th, .int .i64 r.lo, .int .i64 r.hi] 0, .iptr [w, .int .i64 k] 0] (by simp [AVal.strip, stripL, hsw]) (by simp [AVal.free, freeL, hfw])
  unfold Gives
  rcases h with ⟨_, rfl⟩ | rfl <;> simp [xf86, hl, h0, h1, h2, u125, fI, AVal.cells, Store.empty, Store.new, Store.put, Store.get, look, putL, setR, Store.only, Store.merge, touch, wrote, upTo, isIn, okRec, hits, capsOf, xcaps, stripL, AVal.strip, freeL, AVal.free, fillR, chunks, mkV, List.filter]
theorem u85 {r : Ru} {s : Int × Int} {k : Int} {L : List Int} {w : AVal} (h : IL L w) (i : RIn r s L k) (σ : Store) : Run X (.call 85) [.fn 146 [] [.iptr [.int .i64 s.1, .int .i64 s.2] 0, .iptr [w] 0, .iptr [.fn 126 [] [.iptr [.int .i64 r.n, .int .i64 r.a, .int .i64 r.lo, .int .i64 r.hi, .int .i64 r.th, .int .i64 r.lo, .int .i64 r.hi] 0, .iptr [w, .int .i64 k] 0]] 0]] σ = some (.ret, [lstV 2 ((stL r s k L L.length).map st)], σ) := by
  have hfw := h.free; have hsw := h.strip
  have n := i.n
  have u124 := u124 hX (g := 146) (first := []) (caps := [.iptr [.int .i64 s.1, .int .i64 s.2] 0, .iptr [w] 0, .iptr [.fn 126 [] [.iptr [.int .i64 r.n, .int .i64 r.a, .int .i64 r.lo, .int .i64 r.hi, .int .i64 r.th, .int .i64 r.lo, .int .i64 r.hi] 0, .iptr [w, .int .i64 k] 0]] 0]) rfl (by simp [AVal.free, freeL, hfw]) (stL r s k L L.length) (by simp [stL]; omega) (by
    unfold stL; rw [range_map]; exact it146 hX (L := L) (w := w) h (by omega) (gf := 126) (a := []) (c := [.iptr [.int .i64 r.n, .int .i64 r.a, .int .i64 r.lo, .int .i64 r.hi, .int .i64 r.th, .int .i64 r.lo, .int .i64 r.hi] 0, .iptr [w, .int .i64 k] 0]) (sq := sS r s k L) (fun j hj σ => u126 hX (i.sin j hj) h σ)) (sts_free _)
  have hfr : freeL ((stL r s k L L.length).map st) = true := sts_free _
  have hls : (lstV 2 ((stL r s k L L.length).map st)).strip = lstV 2 ((stL r s k L L.length).map st) ∧ (lstV 2 ((stL r s k L L.length).map st)).free = true := by
    unfold lstV; split
    · exact ⟨rfl, rfl⟩
    · simp [AVal.strip, AVal.free, freeL_strip hfr, hfr]
  have := call1 (X := X) (a := .fn 146 [] [.iptr [.int .i64 s.1, .int .i64 s.2] 0, .iptr [w] 0, .iptr [.fn 126 [] [.iptr [.int .i64 r.n, .int .i64 r.a, .int .i64 r.lo, .int .i64 r.hi, .int .i64 r.th, .int .i64 r.lo, .int .i64 r.hi] 0, .iptr [w, .int .i64 k] 0]] 0]) (v := lstV 2 ((stL r s k L L.length).map st)) hX.h85 (by simp [AVal.strip, stripL, AVal.free, freeL, hsw, hfw]) (by decide) (fun tm hl h0 => ?_) (by rw [hls.1]; exact hls.2) σ
  · rw [hls.1] at this; exact this
  simp only [AVal.strip, stripL, hsw] at h0
  replace hl : tm.length = 5 := hl
  unfold Gives
  simp [xf85, hl, h0, u124, Store.empty, Store.new, Store.put, Store.get, look, putL, setR, Store.only, Store.merge, touch, wrote, upTo, isIn, okRec, hits, capsOf, xcaps, stripL, AVal.strip, freeL, AVal.free, fillR, chunks, mkV, List.filter]
theorem u24 {r : Ru} {s : Int × Int} {k : Int} {L : List Int} {w : AVal} (h : IL L w) (hn : L.length ≤ 1000000) (σ : Store) : Run X (.call 24) [r.enc, st s, .agg [w, .int .i64 k]] σ = some (.ret, [.tup [if rnE r s L k = 0 then lstV 2 ((stL r s k L L.length).map st) else .nils, .int .i64 (rnE r s L k)]], σ) := by
  have hA := hX.suB.suA
  have hfw := h.free; have hsw := h.strip; have how := h.one; have hcw := h.cells
  have u4 := fun a b c d tok σ => u74 hA [a, b, c, d] (by simp) tok σ
  simp only [List.map_cons, List.map_nil] at u4
  have u73 := u73 hA r; have u75 := u75 hA s; have u84 := u84 hX h (by omega)
  have z77 := u77 hA ⟨0, 0, 0, 0, 0⟩ k
  have a77 := u77 hA r k
  simp only [Ru.ch] at z77
  have ef := rnE_eq r s L k
  by_cases c : rnE r s L k = 0
  · have ri := rnE_in c
    have u86 := u86 hX (r := r) (s := s) (k := k) h
    have u85 := u85 hX h ri
    have hfr : freeL ((stL r s k L L.length).map st) = true := sts_free _
    have hls : (lstV 2 ((stL r s k L L.length).map st)).strip = lstV 2 ((stL r s k L L.length).map st) ∧ (lstV 2 ((stL r s k L L.length).map st)).free = true := by
      unfold lstV; split
      · exact ⟨rfl, rfl⟩
      · simp [AVal.strip, AVal.free, freeL_strip hfr, hfr]
    generalize lstV 2 ((stL r s k L L.length).map st) = W at *
    rw [if_pos c, c]
    have c1 : r.e = 0 := by unfold rnE at c; split at c <;> assumption
    rw [if_pos c1] at u73
    simp only [Ru.enc, Ru.ch, st] at u73 u75 u86 a77
    rw [ef] at c
    have := call3 (X := X) (a := r.enc) (b := st s) (c := .agg [w, .int .i64 k]) (v := .tup [W, .int .i64 0]) hX.h24 rfl rfl (by simp [AVal.strip, stripL, AVal.free, freeL, hsw, hfw]) (by decide) (fun tm hl h0 h1 h2 => ?_) (by simp [AVal.strip, stripL, AVal.free, freeL, hls.1, hls.2]) σ
    · simpa [AVal.strip, stripL, hls.1] using this
    simp only [AVal.strip, stripL, Ru.enc, st, hsw] at h0 h1 h2
    replace hl : tm.length = 36 := hl
    unfold Gives
    simp [xf24, hl, h0, h1, h2, u73, u75, u84, a77, u4, u86, u85, c, how, hsw, hfw, xresult, xrets, Store.empty, Store.new, Store.put, Store.get, look, putL, setR, Store.only, Store.merge, touch, wrote, upTo, isIn, okRec, hits, capsOf, xcaps, stripL, AVal.strip, freeL, AVal.free, fillR, chunks, mkV, List.filter]
  · rw [if_neg c, ef]
    rw [ef] at c
    by_cases c1 : r.e = 0
    · rw [if_pos c1] at u73
      simp only [Ru.enc, Ru.ch, st] at u73 u75 a77
      refine call3 (a := r.enc) (b := st s) (c := .agg [w, .int .i64 k]) (v := .tup [.nils, .int .i64 _]) hX.h24 rfl rfl (by simp [AVal.strip, stripL, AVal.free, freeL, hsw, hfw]) (by decide) (fun tm hl h0 h1 h2 => ?_) rfl σ
      simp only [AVal.strip, stripL, Ru.enc, st, hsw] at h0 h1 h2
      replace hl : tm.length = 36 := hl
      unfold Gives
      simp [xf24, hl, h0, h1, h2, u73, u75, u84, a77, u4, c, how, hsw, hfw, xresult, xrets, Store.empty, Store.new, Store.put, Store.get, look, putL, setR, Store.only, Store.merge, touch, wrote, upTo, isIn, okRec, hits, capsOf, xcaps, stripL, AVal.strip, freeL, AVal.free, fillR, chunks, mkV, List.filter]
    · have e2 : firstNZ [r.e, stE s, lsE L, frE r k] = r.e := by simp [firstNZ, c1]
      have e3 : firstNZ [r.e, stE s, lsE L, frE ⟨0, 0, 0, 0, 0⟩ k] = r.e := by simp [firstNZ, c1]
      rw [e2]
      rw [if_neg c1] at u73
      simp only [Ru.enc, ch0, st] at u73 u75
      refine call3 (a := r.enc) (b := st s) (c := .agg [w, .int .i64 k]) (v := .tup [.nils, .int .i64 r.e]) hX.h24 rfl rfl (by simp [AVal.strip, stripL, AVal.free, freeL, hsw, hfw]) (by decide) (fun tm hl h0 h1 h2 => ?_) rfl σ
      simp only [AVal.strip, stripL, Ru.enc, st, hsw] at h0 h1 h2
      replace hl : tm.length = 36 := hl
      unfold Gives
      simp [xf24, hl, h0, h1, h2, u73, u75, u84, z77, u4, e3, c1, how, hsw, hfw, xresult, xrets, Store.empty, Store.new, Store.put, Store.get, look, putL, setR, Store.only, Store.merge, touch, wrote, upTo, isIn, okRec, hits, capsOf, xcaps, stripL, AVal.strip, freeL, AVal.free, fillR, chunks, mkV, List.filter]
end
end Go.Proofs.Ytlknncjnfgnlaaa.Eng

/-
  SURGE: runs of boxes, of the program; lists that are the same.
-/
namespace Go.Proofs.Ytlknncjnfgnlaaa.Eng
set_option linter.unusedSimpArgs false
set_option linter.unusedVariables false
section
variable {X : FuncId → Option XFunc} (hX : SuCCode X)
include hX
theorem u89 {r : Ru} {b : Bx} {L : List Int} {w : AVal} (h : IL L w) (σ : Store) : Run X (.call 89) [r.ch, b.enc, w] σ = some (.ret, [.fn 147 [] [.iptr [.int .i64 b.a, .int .i64 b.b, .int .i64 b.c, .int .i64 b.d] 0, .iptr [w] 0, .iptr [.fn 90 [r.ch] []] 0]], σ) := by
  have hfw := h.free; have hsw := h.strip; have how := h.one; have hcw := h.cells
  have fI := ints_fr L
  have u129 : ∀ σ, Run X (.call 129) [.agg [.int .i64 b.a, .int .i64 b.b, .int .i64 b.c, .int .i64 b.d], w, .fn 90 [r.ch] []] σ = some (.ret, [.fn 147 [] [.iptr [.int .i64 b.a, .int .i64 b.b, .int .i64 b.c, .int .i64 b.d] 0, .iptr [w] 0, .iptr [.fn 90 [r.ch] []] 0]], σ) := fun σ => by
    have := call3 (X := X) (a := .agg [.int .i64 b.a, .int .i64 b.b, .int .i64 b.c, .int .i64 b.d]) (b := w) (c := .fn 90 [r.ch] []) (v := .fn 147 [] [.iptr [.int .i64 b.a, .int .i64 b.b, .int .i64 b.c, .int .i64 b.d] 0, .iptr [w] 0, .iptr [.fn 90 [r.ch] []] 0]) hX.h129 rfl (by rw [hsw]; exact hfw) rfl (by decide) (fun tm hl h0 h1 h2 => ?_) (by simp [AVal.strip, stripL, AVal.free, freeL, hsw, hfw, Ru.ch]) σ
    · simpa [AVal.strip, stripL, hsw, Ru.ch] using this
    simp only [AVal.strip, stripL, hsw, Ru.ch] at h0 h1 h2
    replace hl : tm.length = 8 := hl
    unfold Gives
    rcases h with ⟨_, rfl⟩ | rfl <;> simp [xf129, hl, h0, h1, h2, fI, AVal.cells, Ru.ch, Store.empty, Store.new, Store.put, Store.get, look, putL, setR, Store.only, Store.merge, touch, wrote, upTo, isIn, okRec, hits, capsOf, xcaps, stripL, AVal.strip, freeL, AVal.free, fillR, chunks, mkV, List.filter]
  have := call3 (X := X) (a := r.ch) (b := b.enc) (c := w) (v := .fn 147 [] [.iptr [.int .i64 b.a, .int .i64 b.b, .int .i64 b.c, .int .i64 b.d] 0, .iptr [w] 0, .iptr [.fn 90 [r.ch] []] 0]) hX.h89 rfl rfl (by rw [hsw]; exact hfw) (by decide) (fun tm hl h0 h1 h2 => ?_) (by simp [AVal.strip, stripL, AVal.free, freeL, hsw, hfw, Ru.ch]) σ
  · simpa [AVal.strip, stripL, hsw, Ru.ch] using this
  simp only [AVal.strip, stripL, Ru.ch, Bx.enc, hsw] at h0 h1 h2
  replace hl : tm.length = 12 := hl
  simp only [Ru.ch] at u129 ⊢
  unfold Gives
  simp [xf89, hl, h0, h1, h2, u129, fI, hfw, AVal.cells, Store.empty, Store.new, Store.put, Store.get, look, putL, setR, Store.only, Store.merge, touch, wrote, upTo, isIn, okRec, hits, capsOf, xcaps, stripL, AVal.strip, freeL, AVal.free, fillR, chunks, mkV, List.filter]
theorem u88 {r : Ru} {b : Bx} {L : List Int} {w : AVal} (h : IL L w) (i : QIn r b L) (σ : Store) : Run X (.call 88) [.fn 147 [] [.iptr [.int .i64 b.a, .int .i64 b.b, .int .i64 b.c, .int .i64 b.d] 0, .iptr [w] 0, .iptr [.fn 90 [r.ch] []] 0]] σ = some (.ret, [lstV 4 ((bxL r b L L.length).map Bx.enc)], σ) := by
  have hfw := h.free; have hsw := h.strip
  have n := i.n
  have u128 := u128 hX (g := 147) (first := []) (caps := [.iptr [.int .i64 b.a, .int .i64 b.b, .int .i64 b.c, .int .i64 b.d] 0, .iptr [w] 0, .iptr [.fn 90 [r.ch] []] 0]) rfl (by simp [AVal.free, freeL, hfw, Ru.ch]) (bxL r b L L.length) (by simp [bxL]; omega) (by
    unfold bxL; rw [range_map]; exact it147 hX (L := L) (w := w) h (by omega) (gf := 90) (a := [r.ch]) (c := []) (sq := sB r b L) (fun j hj σ => u90 hX.suB (i.bin j hj) σ)) (bxs_free _)
  have hfr : freeL ((bxL r b L L.length).map Bx.enc) = true := bxs_free _
  have hls : (lstV 4 ((bxL r b L L.length).map Bx.enc)).strip = lstV 4 ((bxL r b L L.length).map Bx.enc) ∧ (lstV 4 ((bxL r b L L.length).map Bx.enc)).free = true := by
    unfold lstV; split
    · exact ⟨rfl, rfl⟩
    · simp [AVal.strip, AVal.free, freeL_strip hfr, hfr]
  have := call1 (X := X) (a := .fn 147 [] [.iptr [.int .i64 b.a, .int .i64 b.b, .int .i64 b.c, .int .i64 b.d] 0, .iptr [w] 0, .iptr [.fn 90 [r.ch] []] 0]) (v := lstV 4 ((bxL r b L L.length).map Bx.enc)) hX.h88 (by simp [AVal.strip, stripL, AVal.free, freeL, hsw, hfw, Ru.ch]) (by decide) (fun tm hl h0 => ?_) (by rw [hls.1]; exact hls.2) σ
  · rw [hls.1] at this; exact this
  simp only [AVal.strip, stripL, hsw, Ru.ch] at h0
  replace hl : tm.length = 5 := hl
  simp only [Ru.ch] at u128
  unfold Gives
  simp [xf88, hl, h0, u128, Store.empty, Store.new, Store.put, Store.get, look, putL, setR, Store.only, Store.merge, touch, wrote, upTo, isIn, okRec, hits, capsOf, xcaps, stripL, AVal.strip, freeL, AVal.free, fillR, chunks, mkV, List.filter]
theorem u26 {r : Ru} {b : Bx} {L : List Int} {w : AVal} (h : IL L w) (hn : L.length ≤ 1000000) (σ : Store) : Run X (.call 26) [r.enc, b.enc, w] σ = some (.ret, [.tup [if brE r b L = 0 then lstV 4 ((bxL r b L L.length).map Bx.enc) else .nils, .int .i64 (brE r b L)]], σ) := by
  have hA := hX.suB.suA
  have hfw := h.free; have hsw := h.strip; have how := h.one; have hcw := h.cells
  have u3 := fun a b c tok σ => u74 hA [a, b, c] (by simp) tok σ
  simp only [List.map_cons, List.map_nil] at u3
  have u73 := u73 hA r; have u87 := u87 hX.suB b; have u84 := u84 hX h (by omega)
  have ef := brE_eq r b L
  by_cases c : brE r b L = 0
  · have ri := brE_in c
    have u89 := u89 hX (r := r) (b := b) h
    have u88 := u88 hX h ri
    have hfr : freeL ((bxL r b L L.length).map Bx.enc) = true := bxs_free _
    have hls : (lstV 4 ((bxL r b L L.length).map Bx.enc)).strip = lstV 4 ((bxL r b L L.length).map Bx.enc) ∧ (lstV 4 ((bxL r b L L.length).map Bx.enc)).free = true := by
      unfold lstV; split
      · exact ⟨rfl, rfl⟩
      · simp [AVal.strip, AVal.free, freeL_strip hfr, hfr]
    generalize lstV 4 ((bxL r b L L.length).map Bx.enc) = W at *
    rw [if_pos c, c]
    have c1 : r.e = 0 := by unfold brE at c; split at c <;> assumption
    rw [if_pos c1] at u73
    simp only [Ru.enc, Ru.ch, Bx.enc] at u73 u87 u89 u88
    rw [ef] at c
    have := call3 (X := X) (a := r.enc) (b := b.enc) (c := w) (v := .tup [W, .int .i64 0]) hX.h26 rfl rfl (by rw [hsw]; exact hfw) (by decide) (fun tm hl h0 h1 h2 => ?_) (by simp [AVal.strip, stripL, AVal.free, freeL, hls.1, hls.2]) σ
    · simpa [AVal.strip, stripL, hls.1] using this
    simp only [AVal.strip, stripL, Ru.enc, Bx.enc, hsw] at h0 h1 h2
    replace hl : tm.length = 31 := hl
    unfold Gives
    simp [xf26, hl, h0, h1, h2, u73, u87, u84, u3, u89, u88, c, how, hsw, hfw, xresult, xrets, Store.empty, Store.new, Store.put, Store.get, look, putL, setR, Store.only, Store.merge, touch, wrote, upTo, isIn, okRec, hits, capsOf, xcaps, stripL, AVal.strip, freeL, AVal.free, fillR, chunks, mkV, List.filter]
  · rw [if_neg c, ef]
    rw [ef] at c
    by_cases c1 : r.e = 0
    · rw [if_pos c1] at u73
      simp only [Ru.enc, Ru.ch, Bx.enc] at u73 u87
      refine call3 (a := r.enc) (b := b.enc) (c := w) (v := .tup [.nils, .int .i64 _]) hX.h26 rfl rfl (by rw [hsw]; exact hfw) (by decide) (fun tm hl h0 h1 h2 => ?_) rfl σ
      simp only [AVal.strip, stripL, Ru.enc, Bx.enc, hsw] at h0 h1 h2
      replace hl : tm.length = 31 := hl
      unfold Gives
      simp [xf26, hl, h0, h1, h2, u73, u87, u84, u3, c, how, hsw, hfw, xresult, xrets, Store.empty, Store.new, Store.put, Store.get, look, putL, setR, Store.only, Store.merge, touch, wrote, upTo, isIn, okRec, hits, capsOf, xcaps, stripL, AVal.strip, freeL, AVal.free, fillR, chunks, mkV, List.filter]
    · rw [if_neg c1] at u73
      simp only [Ru.enc, ch0, Bx.enc] at u73 u87
      refine call3 (a := r.enc) (b := b.enc) (c := w) (v := .tup [.nils, .int .i64 _]) hX.h26 rfl rfl (by rw [hsw]; exact hfw) (by decide) (fun tm hl h0 h1 h2 => ?_) rfl σ
      simp only [AVal.strip, stripL, Ru.enc, Bx.enc, hsw] at h0 h1 h2
      replace hl : tm.length = 31 := hl
      unfold Gives
      simp [xf26, hl, h0, h1, h2, u73, u87, u84, u3, c, how, hsw, hfw, xresult, xrets, Store.empty, Store.new, Store.put, Store.get, look, putL, setR, Store.only, Store.merge, touch, wrote, upTo, isIn, okRec, hits, capsOf, xcaps, stripL, AVal.strip, freeL, AVal.free, fillR, chunks, mkV, List.filter]
omit hX in
theorem lstV_len {s : Nat} (ys : List AVal) : xlen (lstV s ys) = some (.int .i64 ys.length) := by
  unfold lstV; split
  · rename_i h; rw [h]; rfl
  · rfl
omit hX in
theorem lstV_list {s : Nat} {ys : List AVal} {i : Nat} (h : i < ys.length) : lstV s ys = .list s ys none := by
  unfold lstV; rw [if_neg (by rintro rfl; simp at h)]
omit hX in
theorem loop29 (l : List (Int × Int)) (hn : l.length ≤ 1000000) : ∀ (k i : Nat), i + k = l.length → ∀ (tm : List AVal) (σ : Store), tm.length = 26 → XOpd.eval tm (.t 0) = lstV 2 (l.map st) → XOpd.eval tm (.t 1) = lstV 2 (l.map st) → XOpd.eval tm (.t 5) = .int .i64 i →
    Ends (Run X (.code (.loop xf29l0)) tm σ) (.exit 0) fun tm' _ => tm'.length = 26
  | 0, i, hk, tm, σ, hl, h0, h1, h5 => by
    have hi : i = l.length := by omega
    subst hi
    have hx := lstV_len (s := 2) (l.map st)
    rw [List.length_map] at hx
    rw [Run_loop]
    simp [xf29l0, hl, h0, h5, hx]
  | k + 1, i, hk, tm, σ, hl, h0, h1, h5 => by
    have hi : i < l.length := by omega
    have hx := lstV_len (s := 2) (l.map st)
    rw [List.length_map] at hx
    have hll := lstV_list (s := 2) (ys := l.map st) (i := i) (by simpa using hi)
    have hg : (l.map st)[i]? = some (.agg [.int .i64 l[i].1, .int .i64 l[i].2]) := by simp [hi, st]
    have hiw : IntKind.i64.wrap ((i : Int) + 1) = ((i + 1 : Nat) : Int) := by rw [wrap_i64] <;> omega
    have ih := loop29 l hn k (i + 1) (by omega)
    rw [hll] at h0 h1 hx ih
    generalize l.map st = ys at *
    have key : Ends (Run X (.code xf29l0) tm σ) .normal fun tm' _ => tm'.length = 26 ∧ XOpd.eval tm' (.t 0) = .list 2 ys none ∧ XOpd.eval tm' (.t 1) = .list 2 ys none ∧ XOpd.eval tm' (.t 5) = .int .i64 ((i + 1 : Nat) : Int) := by
      simp [xf29l0, hl, h0, h1, h5, hx, hi, hg, hiw, AVal.cells, put_next, new_next, Store.get_new, Store.get_put, put_get, setR, only_get, merge_get', only_next, merge_next, upTo_self, upTo_one, merge_only, touch, wrote, isIn, okRec, hits, capsOf, xcaps, stripL, AVal.strip, freeL, AVal.free, fillR, chunks, mkV]
    obtain ⟨o1, o2, o3, o4, o5⟩ := out_of key
    rw [Run_loop, o1, thenC_normal]
    exact ih _ _ o2 o3 o4 o5
theorem u29 (l : List (Int × Int)) (hn : l.length ≤ 1000000) (σ : Store) : Run X (.call 29) [lstV 2 (l.map st), lstV 2 (l.map st)] σ = some (.ret, [.bool true], σ) := by
  have hL := fun tm σ h1 h2 h3 h4 => out_of (loop29 (X := X) l hn l.length 0 (by omega) tm σ h1 h2 h3 h4)
  have hx := lstV_len (s := 2) (l.map st)
  have hfr : freeL (l.map st) = true := sts_free _
  have hls : (lstV 2 (l.map st)).strip = lstV 2 (l.map st) ∧ (lstV 2 (l.map st)).free = true := by
    unfold lstV; split
    · exact ⟨rfl, rfl⟩
    · simp [AVal.strip, AVal.free, freeL_strip hfr, hfr]
  have c0 : ((0 : Nat) : Int) = 0 := rfl
  simp only [c0] at hL
  refine call2 (v := .bool true) hX.h29 (by rw [hls.1]; exact hls.2) (by rw [hls.1]; exact hls.2) (by decide) (fun tm hl h0 h1 => ?_) rfl σ
  rw [hls.1] at h0 h1
  replace hl : tm.length = 26 := hl
  unfold Gives
  generalize lstV 2 (l.map st) = W at *
  simp (maxDischargeDepth := 9) [xf29, hl, h0, h1, hx, hL, Store.empty, Store.new, Store.put, Store.get, look, putL, setR, Store.only, Store.merge, touch, wrote, upTo, isIn, okRec, hits, capsOf, xcaps, stripL, AVal.strip, freeL, AVal.free, fillR, chunks, mkV, List.filter]
omit hX in
theorem loop34 (l : List Bx) (hn : l.length ≤ 1000000) : ∀ (k i : Nat), i + k = l.length → ∀ (tm : List AVal) (σ : Store), tm.length = 26 → XOpd.eval tm (.t 0) = lstV 4 (l.map Bx.enc) → XOpd.eval tm (.t 1) = lstV 4 (l.map Bx.enc) → XOpd.eval tm (.t 5) = .int .i64 i →
    Ends (Run X (.code (.loop xf34l0)) tm σ) (.exit 0) fun tm' _ => tm'.length = 26
  | 0, i, hk, tm, σ, hl, h0, h1, h5 => by
    have hi : i = l.length := by omega
    subst hi
    have hx := lstV_len (s := 4) (l.map Bx.enc)
    rw [List.length_map] at hx
    rw [Run_loop]
    simp [xf34l0, hl, h0, h5, hx]
  | k + 1, i, hk, tm, σ, hl, h0, h1, h5 => by
    have hi : i < l.length := by omega
    have hx := lstV_len (s := 4) (l.map Bx.enc)
    rw [List.length_map] at hx
    have hll := lstV_list (s := 4) (ys := l.map Bx.enc) (i := i) (by simpa using hi)
    have hg : (l.map Bx.enc)[i]? = some (.agg [.int .i64 l[i].a, .int .i64 l[i].b, .int .i64 l[i].c, .int .i64 l[i].d]) := by simp [hi, Bx.enc]
    have hiw : IntKind.i64.wrap ((i : Int) + 1) = ((i + 1 : Nat) : Int) := by rw [wrap_i64] <;> omega
    have ih := loop34 l hn k (i + 1) (by omega)
    rw [hll] at h0 h1 hx ih
    generalize l.map Bx.enc = ys at *
    have key : Ends (Run X (.code xf34l0) tm σ) .normal fun tm' _ => tm'.length = 26 ∧ XOpd.eval tm' (.t 0) = .list 4 ys none ∧ XOpd.eval tm' (.t 1) = .list 4 ys none ∧ XOpd.eval tm' (.t 5) = .int .i64 ((i + 1 : Nat) : Int) := by
      simp [xf34l0, hl, h0, h1, h5, hx, hi, hg, hiw, AVal.cells, put_next, new_next, Store.get_new, Store.get_put, put_get, setR, only_get, merge_get', only_next, merge_next, upTo_self, upTo_one, merge_only, touch, wrote, isIn, okRec, hits, capsOf, xcaps, stripL, AVal.strip, freeL, AVal.free, fillR, chunks, mkV]
    obtain ⟨o1, o2, o3, o4, o5⟩ := out_of key
    rw [Run_loop, o1, thenC_normal]
    exact ih _ _ o2 o3 o4 o5
theorem u34 (l : List Bx) (hn : l.length ≤ 1000000) (σ : Store) : Run X (.call 34) [lstV 4 (l.map Bx.enc), lstV 4 (l.map Bx.enc)] σ = some (.ret, [.bool true], σ) := by
  have hL := fun tm σ h1 h2 h3 h4 => out_of (loop34 (X := X) l hn l.length 0 (by omega) tm σ h1 h2 h3 h4)
  have hx := lstV_len (s := 4) (l.map Bx.enc)
  have hfr : freeL (l.map Bx.enc) = true := bxs_free _
  have hls : (lstV 4 (l.map Bx.enc)).strip = lstV 4 (l.map Bx.enc) ∧ (lstV 4 (l.map Bx.enc)).free = true := by
    unfold lstV; split
    · exact ⟨rfl, rfl⟩
    · simp [AVal.strip, AVal.free, freeL_strip hfr, hfr]
  have c0 : ((0 : Nat) : Int) = 0 := rfl
  simp only [c0] at hL
  refine call2 (v := .bool true) hX.h34 (by rw [hls.1]; exact hls.2) (by rw [hls.1]; exact hls.2) (by decide) (fun tm hl h0 h1 => ?_) rfl σ
  rw [hls.1] at h0 h1
  replace hl : tm.length = 26 := hl
  unfold Gives
  generalize lstV 4 (l.map Bx.enc) = W at *
  simp (maxDischargeDepth := 9) [xf34, hl, h0, h1, hx, hL, Store.empty, Store.new, Store.put, Store.get, look, putL, setR, Store.only, Store.merge, touch, wrote, upTo, isIn, okRec, hits, capsOf, xcaps, stripL, AVal.strip, freeL, AVal.free, fillR, chunks, mkV, List.filter]
end
end Go.Proofs.Ytlknncjnfgnlaaa.Eng

/-
  SURGE: runs of states, of the reference.
-/
namespace Go.Proofs.Ytlknncjnfgnlaaa.Eng
set_option linter.unusedSimpArgs false
set_option linter.unusedVariables false
section
variable {X : FuncId → Option XFunc} (hX : SuCCode X)
include hX
def I30 (r : Ru) (x : Int) (w : AVal) (L : List Int) (sq : Nat → Int × Int) (i : Nat) (tm : List AVal) (σ : Store) : Prop :=
  tm.length = 30 ∧ XOpd.eval tm (.t 2) = w ∧ XOpd.eval tm (.t 3) = .int .i64 x ∧ XOpd.eval tm (.t 4) = .ptr 0 0 ∧ XOpd.eval tm (.t 5) = .ptr 1 0 ∧ XOpd.eval tm (.t 10) = .int .i64 i ∧
  σ.get 0 = some (.cells [.int .i64 r.n, .int .i64 r.a, .int .i64 r.lo, .int .i64 r.hi, .int .i64 r.th]) ∧ σ.get 1 = some (.cells [.int .i64 (sq i).1, .int .i64 (sq i).2]) ∧ 2 ≤ σ.next ∧ OutG 27 2 σ 2 ((List.range i).map fun j => st (sq (j + 1))) (XOpd.eval tm (.t 9))
omit hX in
set_option maxHeartbeats 4000000 in
theorem loop30 {r : Ru} {x : Int} {L : List Int} {w : AVal} (hw : IL L w) (hn : L.length ≤ 200) {sq : Nat → Int × Int} (hs : ∀ i, i < L.length → ∀ σ, Run X (.call 22) [.agg [.int .i64 r.n, .int .i64 r.a, .int .i64 r.lo, .int .i64 r.hi, .int .i64 r.th], .agg [.int .i64 (sq i).1, .int .i64 (sq i).2], .int .i64 (L.getD i 0), .int .i64 x] σ = some (.ret, [.agg [.int .i64 (sq (i + 1)).1, .int .i64 (sq (i + 1)).2]], σ)) :
    ∀ (k i : Nat), i + k = L.length → ∀ (tm : List AVal) (σ : Store), I30 r x w L sq i tm σ →
      Ends (Run X (.code (.loop xf30l0)) tm σ) (.exit 0) fun tm' σ' => tm'.length = 30 ∧ OutG 27 2 σ' 2 ((List.range L.length).map fun j => st (sq (j + 1))) (XOpd.eval tm' (.t 9))
  | 0, i, hk, tm, σ, ⟨hl, h2, h3, ha, hb, hi', g0, g1, nx, ho⟩ => by
    have hi : i = L.length := by omega
    subst hi
    have hx := hw.xlen
    rw [Run_loop]
    simp [xf30l0, hl, h2, hi', hx]
    exact ho
  | k + 1, i, hk, tm, σ, ⟨hl, h2, h3, ha, hb, hi', g0, g1, nx, ho⟩ => by
    have hi : i < L.length := by omega
    have hx := hw.xlen
    have hwl := hw.list (by omega)
    subst hwl
    obtain ⟨N, hN⟩ : ∃ N, σ.next = N + 2 := ⟨σ.next - 2, by omega⟩
    have hiw : IntKind.i64.wrap ((i : Int) + 1) = ((i + 1 : Nat) : Int) := by rw [wrap_i64] <;> omega
    have hg := ints_get hi
    have hgd : L.getD i 0 = L[i] := by simp [hi]
    have hs' := hs i hi
    rw [hgd] at hs'
    have fI := ints_fr L
    have ih := loop30 (x := x) (.inr rfl) hn hs k (i + 1) (by omega)
    have hr : ((List.range (i + 1)).map fun j => st (sq (j + 1))) = ((List.range i).map fun j => st (sq (j + 1))) ++ [.agg [.int .i64 (sq (i + 1)).1, .int .i64 (sq (i + 1)).2]] := by rw [List.range_succ, List.map_append]; rfl
    have key : Ends (Run X (.code xf30l0) tm σ) .normal fun tm' σ' => I30 r x (.list 1 (ints L) none) L sq (i + 1) tm' σ' := by
      generalize hvo : XOpd.eval tm (.t 9) = vo at *
      unfold I30
      rw [hr]
      have hlen : ((List.range i).map fun j => st (sq (j + 1))).length = i := by simp
      have hrl : sq (i + 1) = sq (i + 1) := rfl
      generalize ((List.range i).map fun j => st (sq (j + 1))) = ys at *
      rcases ho with ⟨rfl, rfl⟩ | ⟨j, j1, j2, rfl, j3, j4⟩
      · have i0 : i = 0 := by simpa using hlen.symm
        have e : Ends (Run X (.code xf30l0) tm σ) .normal fun tm' σ' => tm'.length = 30 ∧ XOpd.eval tm' (.t 2) = .list 1 (ints L) none ∧ XOpd.eval tm' (.t 3) = .int .i64 x ∧ XOpd.eval tm' (.t 4) = .ptr 0 0 ∧ XOpd.eval tm' (.t 5) = .ptr 1 0 ∧ XOpd.eval tm' (.t 10) = .int .i64 ((i + 1 : Nat) : Int) ∧
          σ'.get 0 = some (.cells [.int .i64 r.n, .int .i64 r.a, .int .i64 r.lo, .int .i64 r.hi, .int .i64 r.th]) ∧ σ'.get 1 = some (.cells [.int .i64 (sq (i + 1)).1, .int .i64 (sq (i + 1)).2]) ∧ σ'.next = N + 4 ∧ XOpd.eval tm' (.t 9) = .list 2 [.agg [.int .i64 (sq (i + 1)).1, .int .i64 (sq (i + 1)).2]] (some (N + 3)) ∧ σ'.get (N + 3) = some (.tok 27 2 1) := by
          simp [xf30l0, hl, h2, h3, ha, hb, hi', hvo, g0, g1, hN, hi, hx, hg, hs', hiw, fI, xappend, ones, AVal.one, AVal.cells, put_next, new_next, Store.get_new, Store.get_put, put_get, setR, only_get, merge_get', only_next, merge_next, upTo_self, upTo_one, merge_only, touch, wrote, isIn, okRec, hits, capsOf, xcaps, stripL, AVal.strip, freeL, AVal.free, fillR, chunks, mkV]
        obtain ⟨o1, p1, p2, p3, p4, p5, p6, p7, p8, p9, p10, p11⟩ := out_of e
        exact ⟨_, _, o1, p1, p2, p3, p4, p5, p6, p7, p8, by omega, .inr ⟨N + 3, by omega, by omega, p10, p11, by simp⟩⟩
      · have k1 : ¬ j = N + 2 := by omega
        have k2 : ¬ N + 2 = j := by omega
        have k3 : ¬ j = 0 := by omega
        have k4 : ¬ 0 = j := by omega
        have k5 : ¬ j = 1 := by omega
        have k6 : ¬ 1 = j := by omega
        have b1 : (i + 1) * 16 ≤ 1000000000000 := by omega
        have b2 : i + 1 ≤ 1000000000000 := by omega
        have b3 : i ≤ 999999999999 := by omega
        rw [hlen] at j3
        have e : Ends (Run X (.code xf30l0) tm σ) .normal fun tm' σ' => tm'.length = 30 ∧ XOpd.eval tm' (.t 2) = .list 1 (ints L) none ∧ XOpd.eval tm' (.t 3) = .int .i64 x ∧ XOpd.eval tm' (.t 4) = .ptr 0 0 ∧ XOpd.eval tm' (.t 5) = .ptr 1 0 ∧ XOpd.eval tm' (.t 10) = .int .i64 ((i + 1 : Nat) : Int) ∧
          σ'.get 0 = some (.cells [.int .i64 r.n, .int .i64 r.a, .int .i64 r.lo, .int .i64 r.hi, .int .i64 r.th]) ∧ σ'.get 1 = some (.cells [.int .i64 (sq (i + 1)).1, .int .i64 (sq (i + 1)).2]) ∧ σ'.next = N + 3 ∧ XOpd.eval tm' (.t 9) = .list 2 (ys ++ [.agg [.int .i64 (sq (i + 1)).1, .int .i64 (sq (i + 1)).2]]) (some j) ∧ σ'.get j = some (.tok 27 2 (i + 1)) := by
          simp [xf30l0, hl, h2, h3, ha, hb, hi', hvo, g0, g1, j3, hlen, hN, hi, hx, hg, hs', hiw, fI, k1, k2, k3, k4, k5, k6, b1, b2, b3, xappend, ones, AVal.one, AVal.cells, put_next, new_next, Store.get_new, Store.get_put, put_get, setR, only_get, merge_get', only_next, merge_next, upTo_self, upTo_one, merge_only, touch, wrote, isIn, okRec, hits, capsOf, xcaps, stripL, AVal.strip, freeL, AVal.free, fillR, chunks, mkV]
        obtain ⟨o1, p1, p2, p3, p4, p5, p6, p7, p8, p9, p10, p11⟩ := out_of e
        exact ⟨_, _, o1, p1, p2, p3, p4, p5, p6, p7, p8, by omega, .inr ⟨j, j1, by omega, p10, by rw [p11]; simp [hlen], by simp⟩⟩
    obtain ⟨o1, o2⟩ := out_of key
    rw [Run_loop, o1, thenC_normal]
    exact ih _ _ o2
set_option maxHeartbeats 1000000 in
theorem u30 {r : Ru} {x : Int} {L : List Int} {w : AVal} (hw : IL L w) (hn : L.length ≤ 200) {sq : Nat → Int × Int} (hs : ∀ i, i < L.length → ∀ σ, Run X (.call 22) [.agg [.int .i64 r.n, .int .i64 r.a, .int .i64 r.lo, .int .i64 r.hi, .int .i64 r.th], .agg [.int .i64 (sq i).1, .int .i64 (sq i).2], .int .i64 (L.getD i 0), .int .i64 x] σ = some (.ret, [.agg [.int .i64 (sq (i + 1)).1, .int .i64 (sq (i + 1)).2]], σ)) (σ : Store) :
    Run X (.call 30) [.agg [.int .i64 r.n, .int .i64 r.a, .int .i64 r.lo, .int .i64 r.hi, .int .i64 r.th], .agg [.int .i64 (sq 0).1, .int .i64 (sq 0).2], w, .int .i64 x] σ = some (.ret, [lstV 2 ((List.range L.length).map fun j => st (sq (j + 1)))], σ) := by
  have hfr : freeL ((List.range L.length).map fun j => st (sq (j + 1))) = true := by rw [← range_map (fun j => sq (j + 1)) st]; exact sts_free _
  have hE : ∃ v, v = lstV 2 ((List.range L.length).map fun j => st (sq (j + 1))) ∧ ∀ σ, Run X (.call 30) [.agg [.int .i64 r.n, .int .i64 r.a, .int .i64 r.lo, .int .i64 r.hi, .int .i64 r.th], .agg [.int .i64 (sq 0).1, .int .i64 (sq 0).2], w, .int .i64 x] σ = some (.ret, [v], σ) := by
    refine call4E hX.h30 rfl rfl (by rw [hw.strip]; exact hw.free) rfl (by decide) (fun tm hl h0 h1 h2 h3 => ?_)
    rw [hw.strip] at h2
    simp only [AVal.strip, stripL] at h0 h1 h3
    replace hl : tm.length = 30 := hl
    have eP : Ends (Run X (.code (.seq xf30.body.fst (.seq xf30.body.snd.fst xf30.body.snd.snd.fst.fst))) tm Store.empty) .normal fun tm σ => I30 r x w L sq 0 tm σ := by
      simp [I30, OutG, xf30, XCode.fst, XCode.snd, hl, h0, h1, h2, h3, Store.empty, Store.new, Store.put, Store.get, look, putL, setR, Store.only, Store.merge, touch, wrote, upTo, isIn, okRec, hits, capsOf, xcaps, stripL, AVal.strip, freeL, AVal.free, fillR, chunks, mkV, List.filter]
    have eb : xf30.body = .seq xf30.body.fst (.seq xf30.body.snd.fst (.seq (.seq xf30.body.snd.snd.fst.fst (.block 0 (.loop xf30l0))) xf30.body.snd.snd.snd)) := rfl
    unfold GivesE
    rw [eb, seq_left, seq_left, Run_seq, seq_left, Run_seq]
    have e1 : Run X (.code (.seq xf30.body.fst (.seq xf30.body.snd.fst xf30.body.snd.snd.fst.fst))) tm Store.empty = Run X (.code (.seq (.seq xf30.body.fst xf30.body.snd.fst) xf30.body.snd.snd.fst.fst)) tm Store.empty := seq_left _ _ _ _ _
    rw [← e1]
    obtain ⟨o1, o2⟩ := out_of eP
    rw [o1, thenC_normal, Run_block]
    obtain ⟨q1, q2, q3⟩ := out_of (loop30 (X := X) (x := x) hw hn hs L.length 0 (by omega) _ _ o2)
    rw [q1, blockC_exit, thenC_normal]
    generalize outT X (.loop xf30l0) _ _ = tm3 at *
    generalize outS X (.loop xf30l0) _ _ = σ3 at *
    generalize hvo : XOpd.eval tm3 (.t 9) = v at *
    generalize ((List.range L.length).map fun j => st (sq (j + 1))) = ys at *
    have hv : v.strip = lstV 2 ys ∧ v.strip.free = true := by
      rcases q3 with ⟨rfl, h2⟩ | ⟨j, h1, h2, rfl, h4, h5⟩
      · rw [h2]; exact ⟨rfl, rfl⟩
      · refine ⟨?_, by simp [AVal.strip, AVal.free, freeL_strip hfr, hfr]⟩
        unfold lstV
        rw [if_neg h5]; simp [AVal.strip, freeL_strip hfr]
    simp [xf30, XCode.fst, XCode.snd, q2, hvo, givesE, holdsO, Told, hv.1, hv.2, put_next, new_next, Store.get_new, Store.get_put, put_get, setR, only_get, merge_get', only_next, merge_next, upTo_self, upTo_one, merge_only, touch, wrote, isIn, okRec, hits, capsOf, xcaps, stripL, AVal.strip, freeL, AVal.free, fillR, chunks, mkV]
    rw [← hv.1]; exact hv.2
  obtain ⟨w, rfl, h⟩ := hE
  exact h σ
end
end Go.Proofs.Ytlknncjnfgnlaaa.Eng

/-
  SURGE: runs of boxes, of the reference.
-/
namespace Go.Proofs.Ytlknncjnfgnlaaa.Eng
set_option linter.unusedSimpArgs false
set_option linter.unusedVariables false
section
variable {X : FuncId → Option XFunc} (hX : SuCCode X)
include hX
def I35 (r : Ru) (x : Int) (w : AVal) (L : List Int) (sq : Nat → Bx) (i : Nat) (tm : List AVal) (σ : Store) : Prop :=
  tm.length = 27 ∧ XOpd.eval tm (.t 2) = w ∧ XOpd.eval tm (.t 3) = .ptr 0 0 ∧ XOpd.eval tm (.t 4) = .ptr 1 0 ∧ XOpd.eval tm (.t 8) = .int .i64 i ∧
  σ.get 0 = some (.cells [.int .i64 r.n, .int .i64 r.a, .int .i64 r.lo, .int .i64 r.hi, .int .i64 r.th]) ∧ σ.get 1 = some (.cells [.int .i64 (sq i).a, .int .i64 (sq i).b, .int .i64 (sq i).c, .int .i64 (sq i).d]) ∧ 2 ≤ σ.next ∧ OutG 43 4 σ 2 ((List.range i).map fun j => Bx.enc (sq (j + 1))) (XOpd.eval tm (.t 7))
omit hX in
set_option maxHeartbeats 4000000 in
theorem loop35 {r : Ru} {x : Int} {L : List Int} {w : AVal} (hw : IL L w) (hn : L.length ≤ 200) {sq : Nat → Bx} (hs : ∀ i, i < L.length → ∀ σ, Run X (.call 33) [.agg [.int .i64 r.n, .int .i64 r.a, .int .i64 r.lo, .int .i64 r.hi, .int .i64 r.th], .agg [.int .i64 (sq i).a, .int .i64 (sq i).b, .int .i64 (sq i).c, .int .i64 (sq i).d], .int .i64 (L.getD i 0)] σ = some (.ret, [.agg [.int .i64 (sq (i + 1)).a, .int .i64 (sq (i + 1)).b, .int .i64 (sq (i + 1)).c, .int .i64 (sq (i + 1)).d]], σ)) :
    ∀ (k i : Nat), i + k = L.length → ∀ (tm : List AVal) (σ : Store), I35 r x w L sq i tm σ →
      Ends (Run X (.code (.loop xf35l0)) tm σ) (.exit 0) fun tm' σ' => tm'.length = 27 ∧ OutG 43 4 σ' 2 ((List.range L.length).map fun j => Bx.enc (sq (j + 1))) (XOpd.eval tm' (.t 7))
  | 0, i, hk, tm, σ, ⟨hl, h2, ha, hb, hi', g0, g1, nx, ho⟩ => by
    have hi : i = L.length := by omega
    subst hi
    have hx := hw.xlen
    rw [Run_loop]
    simp [xf35l0, hl, h2, hi', hx]
    exact ho
  | k + 1, i, hk, tm, σ, ⟨hl, h2, ha, hb, hi', g0, g1, nx, ho⟩ => by
    have hi : i < L.length := by omega
    have hx := hw.xlen
    have hwl := hw.list (by omega)
    subst hwl
    obtain ⟨N, hN⟩ : ∃ N, σ.next = N + 2 := ⟨σ.next - 2, by omega⟩
    have hiw : IntKind.i64.wrap ((i : Int) + 1) = ((i + 1 : Nat) : Int) := by rw [wrap_i64] <;> omega
    have hg := ints_get hi
    have hgd : L.getD i 0 = L[i] := by simp [hi]
    have hs' := hs i hi
    rw [hgd] at hs'
    have fI := ints_fr L
    have ih := loop35 (x := x) (.inr rfl) hn hs k (i + 1) (by omega)
    have hr : ((List.range (i + 1)).map fun j => Bx.enc (sq (j + 1))) = ((List.range i).map fun j => Bx.enc (sq (j + 1))) ++ [.agg [.int .i64 (sq (i + 1)).a, .int .i64 (sq (i + 1)).b, .int .i64 (sq (i + 1)).c, .int .i64 (sq (i + 1)).d]] := by rw [List.range_succ, List.map_append]; rfl
    have key : Ends (Run X (.code xf35l0) tm σ) .normal fun tm' σ' => I35 r x (.list 1 (ints L) none) L sq (i + 1) tm' σ' := by
      generalize hvo : XOpd.eval tm (.t 7) = vo at *
      unfold I35
      rw [hr]
      have hlen : ((List.range i).map fun j => Bx.enc (sq (j + 1))).length = i := by simp
      have hrl : sq (i + 1) = sq (i + 1) := rfl
      generalize ((List.range i).map fun j => Bx.enc (sq (j + 1))) = ys at *
      rcases ho with ⟨rfl, rfl⟩ | ⟨j, j1, j2, rfl, j3, j4⟩
      · have i0 : i = 0 := by simpa using hlen.symm
        have e : Ends (Run X (.code xf35l0) tm σ) .normal fun tm' σ' => tm'.length = 27 ∧ XOpd.eval tm' (.t 2) = .list 1 (ints L) none ∧ XOpd.eval tm' (.t 3) = .ptr 0 0 ∧ XOpd.eval tm' (.t 4) = .ptr 1 0 ∧ XOpd.eval tm' (.t 8) = .int .i64 ((i + 1 : Nat) : Int) ∧
          σ'.get 0 = some (.cells [.int .i64 r.n, .int .i64 r.a, .int .i64 r.lo, .int .i64 r.hi, .int .i64 r.th]) ∧ σ'.get 1 = some (.cells [.int .i64 (sq (i + 1)).a, .int .i64 (sq (i + 1)).b, .int .i64 (sq (i + 1)).c, .int .i64 (sq (i + 1)).d]) ∧ σ'.next = N + 4 ∧ XOpd.eval tm' (.t 7) = .list 4 [.agg [.int .i64 (sq (i + 1)).a, .int .i64 (sq (i + 1)).b, .int .i64 (sq (i + 1)).c, .int .i64 (sq (i + 1)).d]] (some (N + 3)) ∧ σ'.get (N + 3) = some (.tok 43 4 1) := by
          simp [xf35l0, hl, h2, ha, hb, hi', hvo, g0, g1, hN, hi, hx, hg, hs', hiw, fI, xappend, ones, AVal.one, AVal.cells, put_next, new_next, Store.get_new, Store.get_put, put_get, setR, only_get, merge_get', only_next, merge_next, upTo_self, upTo_one, merge_only, touch, wrote, isIn, okRec, hits, capsOf, xcaps, stripL, AVal.strip, freeL, AVal.free, fillR, chunks, mkV]
        obtain ⟨o1, p1, p2, p4, p5, p6, p7, p8, p9, p10, p11⟩ := out_of e
        exact ⟨_, _, o1, p1, p2, p4, p5, p6, p7, p8, by omega, .inr ⟨N + 3, by omega, by omega, p10, p11, by simp⟩⟩
      · have k1 : ¬ j = N + 2 := by omega
        have k2 : ¬ N + 2 = j := by omega
        have k3 : ¬ j = 0 := by omega
        have k4 : ¬ 0 = j := by omega
        have k5 : ¬ j = 1 := by omega
        have k6 : ¬ 1 = j := by omega
        have b1 : (i + 1) * 32 ≤ 1000000000000 := by omega
        have b2 : i + 1 ≤ 1000000000000 := by omega
        have b3 : i ≤ 999999999999 := by omega
        rw [hlen] at j3
        have e : Ends (Run X (.code xf35l0) tm σ) .normal fun tm' σ' => tm'.length = 27 ∧ XOpd.eval tm' (.t 2) = .list 1 (ints L) none ∧ XOpd.eval tm' (.t 3) = .ptr 0 0 ∧ XOpd.eval tm' (.t 4) = .ptr 1 0 ∧ XOpd.eval tm' (.t 8) = .int .i64 ((i + 1 : Nat) : Int) ∧
          σ'.get 0 = some (.cells [.int .i64 r.n, .int .i64 r.a, .int .i64 r.lo, .int .i64 r.hi, .int .i64 r.th]) ∧ σ'.get 1 = some (.cells [.int .i64 (sq (i + 1)).a, .int .i64 (sq (i + 1)).b, .int .i64 (sq (i + 1)).c, .int .i64 (sq (i + 1)).d]) ∧ σ'.next = N + 3 ∧ XOpd.eval tm' (.t 7) = .list 4 (ys ++ [.agg [.int .i64 (sq (i + 1)).a, .int .i64 (sq (i + 1)).b, .int .i64 (sq (i + 1)).c, .int .i64 (sq (i + 1)).d]]) (some j) ∧ σ'.get j = some (.tok 43 4 (i + 1)) := by
          simp [xf35l0, hl, h2, ha, hb, hi', hvo, g0, g1, j3, hlen, hN, hi, hx, hg, hs', hiw, fI, k1, k2, k3, k4, k5, k6, b1, b2, b3, xappend, ones, AVal.one, AVal.cells, put_next, new_next, Store.get_new, Store.get_put, put_get, setR, only_get, merge_get', only_next, merge_next, upTo_self, upTo_one, merge_only, touch, wrote, isIn, okRec, hits, capsOf, xcaps, stripL, AVal.strip, freeL, AVal.free, fillR, chunks, mkV]
        obtain ⟨o1, p1, p2, p4, p5, p6, p7, p8, p9, p10, p11⟩ := out_of e
        exact ⟨_, _, o1, p1, p2, p4, p5, p6, p7, p8, by omega, .inr ⟨j, j1, by omega, p10, by rw [p11]; simp [hlen], by simp⟩⟩
    obtain ⟨o1, o2⟩ := out_of key
    rw [Run_loop, o1, thenC_normal]
    exact ih _ _ o2
set_option maxHeartbeats 1000000 in
theorem u35 {r : Ru} {x : Int} {L : List Int} {w : AVal} (hw : IL L w) (hn : L.length ≤ 200) {sq : Nat → Bx} (hs : ∀ i, i < L.length → ∀ σ, Run X (.call 33) [.agg [.int .i64 r.n, .int .i64 r.a, .int .i64 r.lo, .int .i64 r.hi, .int .i64 r.th], .agg [.int .i64 (sq i).a, .int .i64 (sq i).b, .int .i64 (sq i).c, .int .i64 (sq i).d], .int .i64 (L.getD i 0)] σ = some (.ret, [.agg [.int .i64 (sq (i + 1)).a, .int .i64 (sq (i + 1)).b, .int .i64 (sq (i + 1)).c, .int .i64 (sq (i + 1)).d]], σ)) (σ : Store) :
    Run X (.call 35) [.agg [.int .i64 r.n, .int .i64 r.a, .int .i64 r.lo, .int .i64 r.hi, .int .i64 r.th], .agg [.int .i64 (sq 0).a, .int .i64 (sq 0).b, .int .i64 (sq 0).c, .int .i64 (sq 0).d], w] σ = some (.ret, [lstV 4 ((List.range L.length).map fun j => Bx.enc (sq (j + 1)))], σ) := by
  have hfr : freeL ((List.range L.length).map fun j => Bx.enc (sq (j + 1))) = true := by rw [← range_map (fun j => sq (j + 1)) Bx.enc]; exact bxs_free _
  have hE : ∃ v, v = lstV 4 ((List.range L.length).map fun j => Bx.enc (sq (j + 1))) ∧ ∀ σ, Run X (.call 35) [.agg [.int .i64 r.n, .int .i64 r.a, .int .i64 r.lo, .int .i64 r.hi, .int .i64 r.th], .agg [.int .i64 (sq 0).a, .int .i64 (sq 0).b, .int .i64 (sq 0).c, .int .i64 (sq 0).d], w] σ = some (.ret, [v], σ) := by
    refine call3E hX.h35 rfl rfl (by rw [hw.strip]; exact hw.free) (by decide) (fun tm hl h0 h1 h2 => ?_)
    rw [hw.strip] at h2
    simp only [AVal.strip, stripL] at h0 h1 
    replace hl : tm.length = 27 := hl
    have eP : Ends (Run X (.code (.seq xf35.body.fst (.seq xf35.body.snd.fst xf35.body.snd.snd.fst.fst))) tm Store.empty) .normal fun tm σ => I35 r x w L sq 0 tm σ := by
      simp [I35, OutG, xf35, XCode.fst, XCode.snd, hl, h0, h1, h2, Store.empty, Store.new, Store.put, Store.get, look, putL, setR, Store.only, Store.merge, touch, wrote, upTo, isIn, okRec, hits, capsOf, xcaps, stripL, AVal.strip, freeL, AVal.free, fillR, chunks, mkV, List.filter]
    have eb : xf35.body = .seq xf35.body.fst (.seq xf35.body.snd.fst (.seq (.seq xf35.body.snd.snd.fst.fst (.block 0 (.loop xf35l0))) xf35.body.snd.snd.snd)) := rfl
    unfold GivesE
    rw [eb, seq_left, seq_left, Run_seq, seq_left, Run_seq]
    have e1 : Run X (.code (.seq xf35.body.fst (.seq xf35.body.snd.fst xf35.body.snd.snd.fst.fst))) tm Store.empty = Run X (.code (.seq (.seq xf35.body.fst xf35.body.snd.fst) xf35.body.snd.snd.fst.fst)) tm Store.empty := seq_left _ _ _ _ _
    rw [← e1]
    obtain ⟨o1, o2⟩ := out_of eP
    rw [o1, thenC_normal, Run_block]
    obtain ⟨q1, q2, q3⟩ := out_of (loop35 (X := X) (x := x) hw hn hs L.length 0 (by omega) _ _ o2)
    rw [q1, blockC_exit, thenC_normal]
    generalize outT X (.loop xf35l0) _ _ = tm3 at *
    generalize outS X (.loop xf35l0) _ _ = σ3 at *
    generalize hvo : XOpd.eval tm3 (.t 7) = v at *
    generalize ((List.range L.length).map fun j => Bx.enc (sq (j + 1))) = ys at *
    have hv : v.strip = lstV 4 ys ∧ v.strip.free = true := by
      rcases q3 with ⟨rfl, h2⟩ | ⟨j, h1, h2, rfl, h4, h5⟩
      · rw [h2]; exact ⟨rfl, rfl⟩
      · refine ⟨?_, by simp [AVal.strip, AVal.free, freeL_strip hfr, hfr]⟩
        unfold lstV
        rw [if_neg h5]; simp [AVal.strip, freeL_strip hfr]
    simp [xf35, XCode.fst, XCode.snd, q2, hvo, givesE, holdsO, Told, hv.1, hv.2, put_next, new_next, Store.get_new, Store.get_put, put_get, setR, only_get, merge_get', only_next, merge_next, upTo_self, upTo_one, merge_only, touch, wrote, isIn, okRec, hits, capsOf, xcaps, stripL, AVal.strip, freeL, AVal.free, fillR, chunks, mkV]
    rw [← hv.1]; exact hv.2
  obtain ⟨w, rfl, h⟩ := hE
  exact h σ
end
end Go.Proofs.Ytlknncjnfgnlaaa.Eng
