/-
  DIGITS to the base 10^9.
-/
import Derived.Test.YtbgjmclpahganaaGreatEngZ
import Derived.Test.YtbgjmclpahganaaGreatCode1
namespace Go.Proofs.YtbgjmclpahganaaGreat.Eng
set_option linter.unusedSimpArgs false
set_option linter.unusedVariables false

def dval : List Int → Int
  | [] => 0
  | d :: l => d + 1000000000 * dval l
def pw : Nat → Int
  | 0 => 1
  | k + 1 => 1000000000 * pw k
def DOk (l : List Int) : Prop := ∀ x ∈ l, 0 ≤ x ∧ x < 1000000000
def DNorm (l : List Int) : Prop := ∀ i, i + 1 = l.length → l[i]? ≠ some 0

theorem DOk.cons {d : Int} {l : List Int} (h : DOk (d :: l)) : (0 ≤ d ∧ d < 1000000000) ∧ DOk l := ⟨h d (by simp), fun x hx => h x (by simp [hx])⟩
theorem DOk.mk {d : Int} {l : List Int} (h1 : 0 ≤ d) (h2 : d < 1000000000) (h : DOk l) : DOk (d :: l) := by
  intro x hx; rcases List.mem_cons.1 hx with rfl | hx
  · exact ⟨h1, h2⟩
  · exact h x hx
theorem DOk.nil : DOk [] := fun x hx => by cases hx
theorem DOk.append {l m : List Int} (h : DOk l) (k : DOk m) : DOk (l ++ m) := fun x hx => by
  rcases List.mem_append.1 hx with hx | hx
  · exact h x hx
  · exact k x hx
theorem DOk.drop {l : List Int} (h : DOk l) (i : Nat) : DOk (l.drop i) := fun x hx => h x (List.mem_of_mem_drop hx)
theorem DOk.take {l : List Int} (h : DOk l) (i : Nat) : DOk (l.take i) := fun x hx => h x (List.mem_of_mem_take hx)
theorem DOk.get {l : List Int} (h : DOk l) {i : Nat} (hi : i < l.length) : 0 ≤ l[i] ∧ l[i] < 1000000000 := h _ (List.getElem_mem hi)
theorem DOk.getD {l : List Int} (h : DOk l) (i : Nat) : 0 ≤ l.getD i 0 ∧ l.getD i 0 < 1000000000 := by
  by_cases hi : i < l.length
  · rw [List.getD_eq_getElem?_getD, List.getElem?_eq_getElem hi]; exact h.get hi
  · rw [List.getD_eq_getElem?_getD, List.getElem?_eq_none (by omega)]; simp
theorem pw_pos (k : Nat) : 0 < pw k := by
  induction k with
  | zero => simp [pw]
  | succ k ih => simp only [pw]; omega
theorem dval_nonneg : ∀ {l : List Int}, DOk l → 0 ≤ dval l
  | [], _ => by simp [dval]
  | d :: l, h => by
    have := h.cons; have := dval_nonneg this.2
    simp only [dval]; omega
theorem dval_lt : ∀ {l : List Int}, DOk l → dval l < pw l.length
  | [], _ => by simp [dval, pw]
  | d :: l, h => by
    have h1 := h.cons; have := dval_lt h1.2
    simp only [dval, pw, List.length_cons]; omega
theorem dval_append : ∀ (l m : List Int), dval (l ++ m) = dval l + pw l.length * dval m
  | [], m => by simp [dval, pw]
  | d :: l, m => by
    have := dval_append l m
    simp only [List.cons_append, dval, this, pw, List.length_cons, Int.mul_add, Int.mul_assoc]; omega
theorem dval_zeros : ∀ (n : Nat), dval (List.replicate n 0) = 0
  | 0 => rfl
  | n + 1 => by simp [List.replicate_succ, dval, dval_zeros n]
theorem dval_drop {l : List Int} {i : Nat} (hi : i < l.length) : dval (l.drop i) = l[i] + 1000000000 * dval (l.drop (i + 1)) := by
  rw [List.drop_eq_getElem_cons hi]; rfl
theorem dval_dropD (l : List Int) (i : Nat) : dval (l.drop i) = l.getD i 0 + 1000000000 * dval (l.drop (i + 1)) := by
  by_cases hi : i < l.length
  · rw [dval_drop hi, List.getD_eq_getElem?_getD, List.getElem?_eq_getElem hi]; rfl
  · rw [List.drop_eq_nil_of_le (by omega), List.drop_eq_nil_of_le (by omega), List.getD_eq_getElem?_getD, List.getElem?_eq_none (by omega)]; simp [dval]
theorem dval_take_succ {l : List Int} {i : Nat} (hi : i < l.length) : dval (l.take (i + 1)) = dval (l.take i) + pw i * l[i] := by
  rw [List.take_succ_eq_append_getElem hi, dval_append]
  simp [dval, List.length_take, Nat.min_eq_left (Nat.le_of_lt hi)]
theorem dval_lower : ∀ {l : List Int}, DOk l → DNorm l → l ≠ [] → pw (l.length - 1) ≤ dval l
  | [], _, _, h => absurd rfl h
  | [d], h, hn, _ => by
    have h1 := h.cons.1
    have h2 := hn 0 rfl
    simp [pw, dval] at h2 ⊢; omega
  | d :: e :: l, h, hn, _ => by
    have h1 := h.cons
    have h2 := dval_lower h1.2 (fun i hi => by have := hn (i + 1) (by simp at hi ⊢; omega); simpa using this) (by simp)
    simp only [dval, pw, List.length_cons, Nat.add_sub_cancel] at h2 ⊢; omega
theorem pw_le : ∀ {k m : Nat}, k ≤ m → pw k ≤ pw m := by
  intro k m h
  induction h with
  | refl => exact Int.le_refl _
  | step _ ih => have := pw_pos k; simp only [pw]; omega
theorem len_le {l : List Int} {k : Nat} (h : DOk l) (hn : DNorm l) (hv : dval l < pw k) : l.length ≤ k := by
  by_cases h0 : l = []
  · subst h0; simp
  · have h1 := dval_lower h hn h0
    by_cases hk : l.length ≤ k
    · exact hk
    · have := pw_le (k := k) (m := l.length - 1) (by omega); omega
theorem dval_zero {l : List Int} (h : DOk l) (hn : DNorm l) (hv : dval l = 0) : l = [] := by
  have := len_le (k := 0) h hn (by rw [hv]; simp [pw])
  exact List.eq_nil_of_length_eq_zero (by omega)

/-! Zeros at the end. -/
def tlen (l : List Int) : Nat → Nat
  | 0 => 0
  | n + 1 => if l.getD n 0 = 0 then tlen l n else n + 1
def trim (l : List Int) : List Int := l.take (tlen l l.length)
theorem tlen_le (l : List Int) : ∀ n, tlen l n ≤ n
  | 0 => Nat.le_refl _
  | n + 1 => by
    simp only [tlen]
    split
    · exact Nat.le_succ_of_le (tlen_le l n)
    · exact Nat.le_refl _
theorem dval_tlen (l : List Int) : ∀ n, n ≤ l.length → dval (l.take (tlen l n)) = dval (l.take n)
  | 0, _ => rfl
  | n + 1, h => by
    have hn : n < l.length := by omega
    simp only [tlen]
    rw [List.getD_eq_getElem?_getD, List.getElem?_eq_getElem hn]
    simp only [Option.getD_some]
    split
    · rename_i h0
      rw [dval_tlen l n (by omega), dval_take_succ hn, h0]; simp
    · rfl
theorem tlen_norm (l : List Int) : ∀ n, n ≤ l.length → ∀ i, i + 1 = tlen l n → l[i]? ≠ some 0
  | 0, _, i, h => by simp [tlen] at h
  | n + 1, hl, i, h => by
    have hn : n < l.length := by omega
    simp only [tlen] at h
    split at h
    · exact tlen_norm l n (by omega) i h
    · rename_i h0
      have : i = n := by omega
      subst this
      rw [List.getD_eq_getElem?_getD] at h0
      intro he; rw [he] at h0; simp at h0
theorem trim_val (l : List Int) : dval (trim l) = dval l := by
  unfold trim; rw [dval_tlen l l.length (Nat.le_refl _), List.take_length]
theorem trim_ok {l : List Int} (h : DOk l) : DOk (trim l) := h.take _
theorem trim_len (l : List Int) : (trim l).length = tlen l l.length := by
  unfold trim; rw [List.length_take]; exact Nat.min_eq_left (tlen_le _ _)
theorem trim_norm (l : List Int) : DNorm (trim l) := by
  intro i hi
  have h1 := tlen_norm l l.length (Nat.le_refl _) i (by rw [trim_len] at hi; exact hi)
  unfold trim
  rw [trim_len] at hi
  rw [List.getElem?_take_of_lt (by omega)]; exact h1
theorem trim_of_norm {l : List Int} (h : DNorm l) : trim l = l := by
  unfold trim
  cases hl : l.length with
  | zero => have := List.eq_nil_of_length_eq_zero hl; subst this; rfl
  | succ n =>
    have := h n hl.symm
    have hn : n < l.length := by omega
    simp only [tlen]
    rw [List.getElem?_eq_getElem hn] at this
    rw [List.getD_eq_getElem?_getD, List.getElem?_eq_getElem hn, Option.getD_some, if_neg (by intro h; apply this; rw [h]), ← hl, List.take_length]
theorem trim_length_le (l : List Int) : (trim l).length ≤ l.length := by rw [trim_len]; exact tlen_le _ _

/-! Comparison from the top. -/
def cmpT (a b : List Int) : Nat → Int
  | 0 => 0
  | i + 1 => if a.getD i 0 < b.getD i 0 then -1 else if b.getD i 0 < a.getD i 0 then 1 else cmpT a b i
theorem cmpT_spec {a b : List Int} (ha : DOk a) (hb : DOk b) : ∀ n, n ≤ a.length → n ≤ b.length → cmpT a b n = if dval (a.take n) < dval (b.take n) then -1 else if dval (b.take n) < dval (a.take n) then 1 else 0
  | 0, _, _ => by simp [cmpT, dval]
  | n + 1, h1, h2 => by
    have ih := cmpT_spec ha hb n (by omega) (by omega)
    have n1 : n < a.length := by omega
    have n2 : n < b.length := by omega
    rw [dval_take_succ n1, dval_take_succ n2]
    simp only [cmpT]
    rw [List.getD_eq_getElem?_getD, List.getD_eq_getElem?_getD, List.getElem?_eq_getElem n1, List.getElem?_eq_getElem n2, Option.getD_some, Option.getD_some]
    have l1 : dval (a.take n) < pw n := by have := dval_lt (ha.take n); rwa [List.length_take, Nat.min_eq_left (by omega)] at this
    have l2 : dval (b.take n) < pw n := by have := dval_lt (hb.take n); rwa [List.length_take, Nat.min_eq_left (by omega)] at this
    have p1 := dval_nonneg (ha.take n)
    have p2 := dval_nonneg (hb.take n)
    have hp := pw_pos n
    by_cases e1 : a[n] < b[n]
    · have : pw n * (a[n] + 1) ≤ pw n * b[n] := Int.mul_le_mul_of_nonneg_left (by omega) (by omega)
      rw [Int.mul_add] at this
      rw [if_pos e1, if_pos (by omega)]
    · by_cases e2 : b[n] < a[n]
      · have : pw n * (b[n] + 1) ≤ pw n * a[n] := Int.mul_le_mul_of_nonneg_left (by omega) (by omega)
        rw [Int.mul_add] at this
        rw [if_neg e1, if_pos e2, if_neg (by omega), if_pos (by omega)]
      · have : a[n] = b[n] := by omega
        rw [if_neg e1, if_neg e2, ih, this]
        by_cases e3 : dval (a.take n) < dval (b.take n) <;> by_cases e4 : dval (b.take n) < dval (a.take n) <;> simp [e3, e4]
def sgn (n : Int) : Int := if n < 0 then -1 else if 0 < n then 1 else 0
def cmpD (a b : List Int) : Int := if a.length = b.length then cmpT a b a.length else if a.length < b.length then -1 else 1
theorem cmpD_spec {a b : List Int} (ha : DOk a) (hb : DOk b) (na : DNorm a) (nb : DNorm b) : cmpD a b = sgn (dval a - dval b) := by
  unfold cmpD sgn
  by_cases h : a.length = b.length
  · rw [if_pos h, cmpT_spec ha hb _ (Nat.le_refl _) (by omega)]
    have : b.take a.length = b := by rw [h, List.take_length]
    rw [List.take_length, this]
    have c1 : (dval a < dval b) = (dval a - dval b < 0) := by apply propext; omega
    have c2 : (dval b < dval a) = (0 < dval a - dval b) := by apply propext; omega
    simp only [c1, c2]
  · rw [if_neg h]
    by_cases hlt : a.length < b.length
    · rw [if_pos hlt]
      have h1 := dval_lt ha
      have h2 := dval_lower hb nb (by rintro rfl; simp at hlt)
      have h3 := pw_le (k := a.length) (m := b.length - 1) (by omega)
      rw [if_pos (by omega)]
    · rw [if_neg hlt]
      have h1 := dval_lt hb
      have h2 := dval_lower ha na (by rintro rfl; simp only [List.length_nil] at hlt h; omega)
      have h3 := pw_le (k := b.length) (m := a.length - 1) (by omega)
      rw [if_neg (by omega), if_pos (by omega)]

/-! Products, row by row. -/
def mrow : List Int → List Int → Int → Int → List Int
  | [], _, _, _ => []
  | d :: o, [], _, c => (d + c) :: o
  | d :: o, y :: b, x, c => (d + x * y + c) % 1000000000 :: mrow o b x ((d + x * y + c) / 1000000000)
theorem mrow_len : ∀ (o b : List Int) (x c : Int), (mrow o b x c).length = o.length
  | [], _, _, _ => rfl
  | _ :: _, [], _, _ => rfl
  | _ :: o, _ :: b, x, c => by simp [mrow, mrow_len o b]
theorem mrow_val : ∀ (o b : List Int) (x c : Int), b.length < o.length → dval (mrow o b x c) = dval o + x * dval b + c
  | [], b, _, _, h => by simp at h
  | d :: o, [], x, c, _ => by simp only [mrow, dval]; omega
  | d :: o, y :: b, x, c, h => by
    have ih := mrow_val o b x ((d + x * y + c) / 1000000000) (by simp at h; omega)
    simp only [mrow, dval, ih]
    have e : x * (y + 1000000000 * dval b) = x * y + 1000000000 * (x * dval b) := by rw [Int.mul_add, Int.mul_left_comm]
    rw [e]; omega
def mulD : List Int → List Int → List Int → List Int
  | o, [], _ => o
  | [], _ :: _, _ => []
  | d :: o, x :: a, b => (mrow (d :: o) b x 0).headD 0 :: mulD (mrow (d :: o) b x 0).tail a b
theorem mulD_val : ∀ (a o b : List Int), a.length + b.length < o.length → dval (mulD o a b) = dval o + dval a * dval b
  | [], o, b, _ => by cases o <;> simp [mulD, dval]
  | x :: a, [], b, h => by simp at h
  | x :: a, d :: o, b, h => by
    have hl := mrow_len (d :: o) b x 0
    have hv := mrow_val (d :: o) b x 0 (by simp at h ⊢; omega)
    cases hm : mrow (d :: o) b x 0 with
    | nil => rw [hm] at hl; simp at hl
    | cons e m =>
      rw [hm] at hl hv
      have ih := mulD_val a m b (by simp at hl h; omega)
      simp only [mulD, hm, List.headD_cons, List.tail_cons, dval, ih]
      simp only [dval] at hv
      have e : (x + 1000000000 * dval a) * dval b = x * dval b + 1000000000 * (dval a * dval b) := by rw [Int.add_mul, Int.mul_assoc]
      rw [e]; omega
end Go.Proofs.YtbgjmclpahganaaGreat.Eng

/-
  WIDE numbers, A: digits, run.
-/
namespace Go.Proofs.YtbgjmclpahganaaGreat.Eng
set_option linter.unusedSimpArgs false
set_option linter.unusedVariables false

@[simp] theorem wrap_m1 : IntKind.i64.wrap (-1) = -1 := by decide
def ints (l : List Int) : List AVal := l.map (.int .i64)
theorem ints_free (l : List Int) : freeL (ints l) = true := by rw [freeL_all]; intro x hx; obtain ⟨s, _, rfl⟩ := List.mem_map.1 hx; rfl
theorem ints_strip (l : List Int) : stripL (ints l) = ints l := freeL_strip (ints_free l)
@[simp] theorem ints_len (l : List Int) : (ints l).length = l.length := by simp [ints]
theorem ints_get {l : List Int} {i : Nat} (h : i < l.length) : (ints l)[i]? = some (.int .i64 l[i]) := by simp [ints, h]
theorem ints_get' {l : List Int} {i : Nat} (h : i < l.length) : (ints l)[i]? = some (.int .i64 (l.getD i 0)) := by
  rw [ints_get h, List.getD_eq_getElem?_getD, List.getElem?_eq_getElem h]; rfl
@[simp] theorem ints_getElem {l : List Int} {i : Nat} (h : i < (ints l).length) : (ints l)[i] = .int .i64 (l[i]'(by rwa [ints_len] at h)) := by simp [ints]
theorem ints_append (l m : List Int) : ints l ++ ints m = ints (l ++ m) := by simp [ints]
theorem ints_take (l : List Int) (k : Nat) : (ints l).take k = ints (l.take k) := by simp [ints]
theorem ints_ones (l : List Int) : ones (ints l) = true := by simp [ones, ints, AVal.one]

/-- Digits, as they come. -/
def DL (l : List Int) (v : AVal) : Prop := (v = .nils ∧ l = []) ∨ v = .list 1 (ints l) none
theorem DL.strip {l : List Int} {v : AVal} (h : DL l v) : v.strip = v := by
  rcases h with ⟨rfl, _⟩ | rfl
  · rfl
  · simp [AVal.strip, ints_strip]
theorem DL.free {l : List Int} {v : AVal} (h : DL l v) : v.free = true := by
  rcases h with ⟨rfl, _⟩ | rfl
  · rfl
  · simp [AVal.free, ints_free]
/-- Digits in a list that grows. -/
def OutL (σ : Store) (m0 : Nat) (xs : List Int) (v : AVal) : Prop := (v = .nils ∧ xs = []) ∨ ∃ j, m0 ≤ j ∧ j < σ.next ∧ v = .list 1 (ints xs) (some j) ∧ σ.get j = some (.tok 3 1 xs.length)
theorem OutL.strip {σ : Store} {m0 : Nat} {xs : List Int} {v : AVal} (h : OutL σ m0 xs v) : DL xs v.strip := by
  rcases h with ⟨rfl, rfl⟩ | ⟨j, _, _, rfl, _⟩
  · exact .inl ⟨rfl, rfl⟩
  · exact .inr (by simp [AVal.strip, ints_strip])
theorem app_step {σ : Store} {m0 : Nat} {xs : List Int} {v : AVal} {x : Int} (h : OutL σ m0 xs v) (hn : m0 ≤ σ.next) (hl : xs.length ≤ 1000000) :
    ∃ v' σ', xappend (σ.new (.tok 3 1 1)) 3 1 8 v (.list 1 [.int .i64 x] (some σ.next)) = some (v', σ') ∧ OutL σ' m0 (xs ++ [x]) v' ∧ (∀ m, m < m0 → σ'.get m = σ.get m) ∧ m0 ≤ σ'.next := by
  rcases h with ⟨rfl, rfl⟩ | ⟨j, h1, h2, rfl, h3⟩
  · refine ⟨.list 1 (ints [x]) (some (σ.next + 1)), (σ.new (.tok 3 1 1)).new (.tok 3 1 1), by simp [xappend, ones, AVal.one, ints, Store.new], .inr ⟨σ.next + 1, by omega, by simp [Store.new], rfl, ?_⟩, fun m hm => ?_, by simp [Store.new]; omega⟩
    · rw [Store.get_new]; exact Mem.put_self _ _ _
    · rw [Store.get_new, Mem.put_ne _ (by simp [Store.new]; omega), Store.get_new, Mem.put_ne _ (by omega)]
  · have hg : (σ.new (.tok 3 1 1)).get j = some (.tok 3 1 xs.length) := by rw [Store.get_new, Mem.put_ne _ (by omega)]; exact h3
    have e1 : (xs.length + 1) * 8 ≤ 1000000000000 := by omega
    have e2 : xs.length + 1 ≤ 1000000000000 := by omega
    refine ⟨.list 1 (ints (xs ++ [x])) (some j), (σ.new (.tok 3 1 1)).put j (.tok 3 1 (xs.length + 1)), by simp [xappend, ones, AVal.one, hg, ints, e1, e2], .inr ⟨j, h1, by simp [Store.new, Store.put]; omega, rfl, ?_⟩, fun m hm => ?_, by simp [Store.new, Store.put]; omega⟩
    · rw [Store.get_put, Mem.put_self]; simp
    · rw [Store.get_put, Mem.put_ne _ (by omega), Store.get_new, Mem.put_ne _ (by omega)]

section
variable {X : FuncId → Option XFunc} (hX : WideCode X)
include hX

theorem w162 {l : List Int} {v : AVal} (h : DL l v) (i : Nat) (σ : Store) : Run X (.call 160) [v, .int .i64 i] σ = some (.ret, [.int .i64 (l.getD i 0)], σ) := by
  refine call2 (v := .int .i64 (l.getD i 0)) hX.h160 (by rw [h.strip]; exact h.free) rfl (by decide) ?_ rfl σ
  intro tm hl h0 h1
  rw [h.strip] at h0
  simp only [AVal.strip] at h1
  replace hl : tm.length = 13 := hl
  unfold Gives
  rcases h with ⟨rfl, rfl⟩ | rfl
  · have hz : ¬ (i : Int) < 0 := by omega
    simp [xf160, hl, h0, h1, hz]
  · by_cases hi : i < l.length
    · simp [xf160, hl, h0, h1, ints_len, hi, ints_get]
    · have : (l.length : Int) ≤ i := by omega
      simp [xf160, hl, h0, h1, ints_len, hi, Nat.not_lt.1 hi]

omit hX in
theorem loop153 {l : List Int} (hn : l.length ≤ 1000000) (tok : Option Nat) : ∀ (n : Nat), n ≤ l.length → ∀ (tm : List AVal) (σ : Store), tm.length = 21 → XOpd.eval tm (.t 0) = .list 1 (ints l) tok → XOpd.eval tm (.t 3) = .int .i64 n →
    Ends (Run X (.code (.loop xf158l0)) tm σ) (.exit 0) fun tm' _ => tm'.length = 21 ∧ XOpd.eval tm' (.t 0) = .list 1 (ints l) tok ∧ XOpd.eval tm' (.t 3) = .int .i64 (tlen l n)
  | 0, hk, tm, σ, hl, h0, h3 => by
    rw [Run_loop]
    simp [xf158l0, hl, h0, h3, tlen]
  | n + 1, hk, tm, σ, hl, h0, h3 => by
    have hi : n < l.length := by omega
    have hw : IntKind.i64.wrap (n : Int) = (n : Int) := by rw [wrap_i64] <;> omega
    have hp : (0 : Int) < (n : Int) + 1 := by omega
    have eD : l.getD n 0 = l[n] := by rw [List.getD_eq_getElem?_getD, List.getElem?_eq_getElem hi]; rfl
    simp only [Int.natCast_add, Int.cast_ofNat_Int] at h3
    rw [Run_loop]
    simp only [tlen, eD]
    by_cases e : l[n] = 0
    · have ih := loop153 hn tok n (by omega)
      simp only [e, if_true]
      simp [xf158l0, hl, h0, h3, hw, hp, hi, e]
      exact ih _ _ (by simp [hl]) (by simp [hl, h0]) (by simp [hl])
    · simp only [e, if_false]
      simp [xf158l0, hl, h0, h3, hw, hp, hi, e]

theorem w153 {l : List Int} {v : AVal} (h : DL l v.strip) (hn : l.length ≤ 1000000) : ∃ u, DL (trim l) u ∧ ∀ σ, Run X (.call 158) [v] σ = some (.ret, [u], σ) := by
  rcases h with ⟨hv, rfl⟩ | hv
  · refine ⟨.nils, .inl ⟨rfl, rfl⟩, fun σ => ?_⟩
    refine call1 (v := .nils) hX.h158 (by rw [hv]; rfl) (by decide) ?_ rfl σ
    intro tm hl h0
    rw [hv] at h0
    replace hl : tm.length = 21 := hl
    unfold Gives
    simp [xf158, Run_loop, xf158l0, hl, h0]
  · refine ⟨.list 1 (ints (trim l)) none, .inr rfl, fun σ => ?_⟩
    have := call1 (X := X) (a := v) (v := .list 1 (ints (trim l)) none) hX.h158 (by rw [hv]; simp [AVal.free, ints_free]) (by decide) ?_ (by simp [AVal.strip, AVal.free, ints_strip, ints_free]) σ
    · simpa [AVal.strip, ints_strip] using this
    intro tm hl h0
    rw [hv] at h0
    replace hl : tm.length = 21 := hl
    have hL := fun tm σ h1 h2 h3 => out_of (loop153 (X := X) hn none l.length (Nat.le_refl _) tm σ h1 h2 h3)
    have ht := tlen_le l l.length
    unfold Gives
    simp (maxDischargeDepth := 9) [xf158, hl, h0, hL, ints_len, ht, trim, ints_take]
end
end Go.Proofs.YtbgjmclpahganaaGreat.Eng

/-
  WIDE numbers, B: whole numbers in digits, sums and differences.
-/
namespace Go.Proofs.YtbgjmclpahganaaGreat.Eng
set_option linter.unusedSimpArgs false
set_option linter.unusedVariables false

def ab (n : Int) : Int := if n < 0 then -n else n
/-- A number, as it is kept. -/
def IsW (n : Int) (v : AVal) : Prop := ∃ l d, v = .agg [.int .i64 (sgn n), d] ∧ DL l d ∧ DOk l ∧ DNorm l ∧ dval l = ab n
def Small (n : Int) : Prop := ab n < pw 40
theorem IsW.strip {n : Int} {v : AVal} (h : IsW n v) : v.strip = v := by
  obtain ⟨l, d, rfl, h, _⟩ := h
  simp [AVal.strip, stripL, h.strip]
theorem IsW.free {n : Int} {v : AVal} (h : IsW n v) : v.free = true := by
  obtain ⟨l, d, rfl, h, _⟩ := h
  simp [AVal.free, freeL, h.free]

section
variable {X : FuncId → Option XFunc} (hX : WideCode X)
include hX

theorem w143 {l : List Int} {v : AVal} (h : DL l v.strip) (hn : l.length ≤ 1000000) (s : Int) : ∃ u, DL (trim l) u ∧ ∀ σ, Run X (.call 147) [.int .i64 s, v] σ = some (.ret, [.agg [.int .i64 (if trim l = [] then 0 else s), u]], σ) := by
  obtain ⟨u, hu, h153⟩ := w153 hX (v := v.strip) (by rw [h.strip]; exact h) hn
  refine ⟨u, hu, fun σ => ?_⟩
  have hus : (AVal.agg [.int .i64 (if trim l = [] then 0 else s), u]).strip = .agg [.int .i64 (if trim l = [] then 0 else s), u] := by simp [AVal.strip, stripL, hu.strip]
  have := call2 (X := X) (a := .int .i64 s) (b := v) (v := .agg [.int .i64 (if trim l = [] then 0 else s), u]) hX.h147 rfl h.free (by decide) ?_ (by rw [hus]; simp [AVal.free, freeL, hu.free]) σ
  · rwa [hus] at this
  intro tm hl h0 h1
  simp only [AVal.strip] at h0
  replace hl : tm.length = 13 := hl
  unfold Gives
  rcases hu with ⟨rfl, he⟩ | rfl
  · simp [xf147, hl, h0, h1, h153, he, Store.empty, Store.new, Store.put, Store.get, look, putL, fillR, mkV, setR, AVal.one]
  · by_cases he : trim l = []
    · simp [xf147, hl, h0, h1, h153, he, ints, Store.empty, Store.new, Store.put, Store.get, look, putL, fillR, mkV, setR, AVal.one]
    · have e1 : ¬ (trim l).length = 0 := fun e => he (List.eq_nil_of_length_eq_zero e)
      simp [xf147, hl, h0, h1, h153, he, e1, Store.empty, Store.new, Store.put, Store.get, look, putL, fillR, mkV, setR, AVal.one]

theorem w149 (n : Int) (h1 : -9223372036854775808 < n) (h2 : n ≤ 9223372036854775807) (σ : Store) : Run X (.call 148) [.int .i64 n] σ = some (.ret, [.int .i64 (ab n)], σ) := by
  refine call1 (v := .int .i64 (ab n)) hX.h148 rfl (by decide) ?_ rfl σ
  intro tm hl h0
  simp only [AVal.strip] at h0
  replace hl : tm.length = 7 := hl
  have hw : IntKind.i64.wrap (-n) = -n := by rw [wrap_i64] <;> omega
  unfold Gives
  by_cases e : n < 0
  · have : n < -n := by omega
    simp [xf148, hl, h0, hw, ab, e, this]
  · have : ¬ n < -n := by omega
    simp [xf148, hl, h0, hw, ab, e, this]

theorem w147 {n : Int} {v : AVal} (h : IsW n v) : ∃ u, IsW (-n) u ∧ ∀ σ, Run X (.call 149) [v] σ = some (.ret, [u], σ) := by
  have hs := h.strip; have hf := h.free
  obtain ⟨l, d, rfl, hd, h1, h2, h3⟩ := h
  have e : sgn (-n) = -sgn n := by simp only [sgn]; repeat' split <;> omega
  have hw : IntKind.i64.wrap (-sgn n) = -sgn n := by rw [wrap_i64] <;> (simp only [sgn]; repeat' split <;> omega)
  have hu : IsW (-n) (.agg [.int .i64 (-sgn n), d]) := ⟨l, d, by rw [e], hd, h1, h2, by rw [h3]; simp only [ab]; repeat' split <;> omega⟩
  refine ⟨_, hu, fun σ => ?_⟩
  have := call1 (X := X) (v := .agg [.int .i64 (-sgn n), d]) hX.h149 (by rw [hs]; exact hf) (by decide) (fun tm hl h0 => by
    rw [hs] at h0
    replace hl : tm.length = 9 := hl
    unfold Gives
    rcases hd with ⟨rfl, _⟩ | rfl <;> simp [xf149, hl, h0, hw, Store.empty, Store.new, Store.put, Store.get, look, putL, fillR, mkV, setR, AVal.one]) (by rw [hu.strip]; exact hu.free) σ
  rwa [hu.strip] at this

/-! Comparison. -/
omit hX in
theorem loop156 {a b : List Int} (hn : a.length ≤ 1000000) (hab : a.length = b.length) : ∀ (n : Nat), n ≤ a.length → ∀ (tm : List AVal) (σ : Store), tm.length = 41 → XOpd.eval tm (.t 0) = .list 1 (ints a) none → XOpd.eval tm (.t 1) = .list 1 (ints b) none → XOpd.eval tm (.t 5) = .int .i64 ((n : Int) - 1) →
    Ends (Run X (.code (.loop xf156l0)) tm σ) (if cmpT a b n = 0 then .exit 0 else .ret) fun tm' _ => tm'.length = 41 ∧ (cmpT a b n ≠ 0 → XOpd.eval tm' (.t 4) = .int .i64 (cmpT a b n))
  | 0, hk, tm, σ, hl, h0, h1, h5 => by
    rw [Run_loop]
    simp [xf156l0, hl, h0, h1, h5, cmpT]
  | n + 1, hk, tm, σ, hl, h0, h1, h5 => by
    have hi : n < a.length := by omega
    have hj : n < b.length := by omega
    have hw : IntKind.i64.wrap ((n : Int) - 1) = (n : Int) - 1 := by rw [wrap_i64] <;> omega
    have hp : (0 : Int) ≤ (n : Int) := by omega
    have eA : a.getD n 0 = a[n] := by rw [List.getD_eq_getElem?_getD, List.getElem?_eq_getElem hi]; rfl
    have eB : b.getD n 0 = b[n] := by rw [List.getD_eq_getElem?_getD, List.getElem?_eq_getElem hj]; rfl
    have h5' : XOpd.eval tm (.t 5) = .int .i64 (n : Int) := by rw [h5]; congr 1; omega
    rw [Run_loop]
    simp only [cmpT, eA, eB]
    by_cases c1 : a[n] < b[n]
    · simp [xf156l0, hl, h0, h1, h5', hw, hp, hi, hj, c1, Store.only, Store.merge, touch, wrote, upTo, isIn, okRec, hits, capsOf, xcaps, ints_free]
    · by_cases c2 : b[n] < a[n]
      · simp [xf156l0, hl, h0, h1, h5', hw, hp, hi, hj, c1, c2, Store.only, Store.merge, touch, wrote, upTo, isIn, okRec, hits, capsOf, xcaps, ints_free]
      · have ih := loop156 hn hab n (by omega)
        simp only [c1, c2, if_false]
        simp [xf156l0, hl, h0, h1, h5', hw, hp, hi, hj, c1, c2, Store.only, Store.merge, touch, wrote, upTo, isIn, okRec, hits, capsOf, xcaps, ints_free]
        exact ih _ _ (by simp [hl]) (by simp [hl, h0]) (by simp [hl, h1]) (by simp [hl])

theorem w156 {a b : List Int} {u v : AVal} (ha : DL a u) (hb : DL b v) (hn : a.length ≤ 1000000) (hm : b.length ≤ 1000000) (σ : Store) : Run X (.call 156) [u, v] σ = some (.ret, [.int .i64 (cmpD a b)], σ) := by
  refine call2 (v := .int .i64 (cmpD a b)) hX.h156 (by rw [ha.strip]; exact ha.free) (by rw [hb.strip]; exact hb.free) (by decide) ?_ rfl σ
  intro tm hl h0 h1
  rw [ha.strip] at h0
  rw [hb.strip] at h1
  replace hl : tm.length = 41 := hl
  unfold Gives
  by_cases hab : a.length = b.length
  · have hL := fun tm σ h1 h2 h3 h4 => out_of (loop156 (X := X) hn hab a.length (Nat.le_refl _) tm σ h1 h2 h3 h4)
    have hw : IntKind.i64.wrap ((a.length : Int) - 1) = (a.length : Int) - 1 := by rw [wrap_i64] <;> omega
    have hw' : IntKind.i64.wrap ((b.length : Int) - 1) = (b.length : Int) - 1 := by rw [wrap_i64] <;> omega
    rcases ha with ⟨rfl, rfl⟩ | rfl <;> rcases hb with ⟨rfl, rfl⟩ | rfl
    · simp [xf156, Run_loop, xf156l0, hl, h0, h1, cmpD, cmpT]
    · have hb0 : b = [] := List.eq_nil_of_length_eq_zero (by simpa using hab.symm)
      subst hb0
      simp [xf156, Run_loop, xf156l0, hl, h0, h1, cmpD, cmpT, ints]
    · have ha0 : a = [] := List.eq_nil_of_length_eq_zero (by simpa using hab)
      subst ha0
      simp [xf156, Run_loop, xf156l0, hl, h0, h1, cmpD, cmpT, ints]
    · have e : cmpD a b = cmpT a b a.length := by simp [cmpD, hab]
      rw [e]
      have hba := hab.symm
      by_cases he : cmpT a b a.length = 0
      · simp only [he, if_true] at hL
        simp (maxDischargeDepth := 9) [xf156, hl, h0, h1, hL, he, hba, hw]
      · simp only [he, if_false] at hL
        simp (maxDischargeDepth := 9) [xf156, hl, h0, h1, hL, he, hba, hw]
  · have hab' : ¬ (a.length : Int) = (b.length : Int) := by omega
    by_cases hlt : a.length < b.length
    · have hlt' : (a.length : Int) < (b.length : Int) := by omega
      rcases ha with ⟨rfl, rfl⟩ | rfl <;> rcases hb with ⟨rfl, rfl⟩ | rfl
      all_goals (try simp only [List.length_nil, Int.natCast_zero, Int.cast_ofNat_Int] at hab hlt hab' hlt')
      all_goals first | (exfalso; omega) | exact absurd trivial hab | simp [xf156, hl, h0, h1, cmpD, hab, hab', hlt, hlt']
    · have hlt' : ¬ (a.length : Int) < (b.length : Int) := by omega
      rcases ha with ⟨rfl, rfl⟩ | rfl <;> rcases hb with ⟨rfl, rfl⟩ | rfl
      all_goals (try simp only [List.length_nil, Int.natCast_zero, Int.cast_ofNat_Int] at hab hlt hab' hlt')
      all_goals first | (exfalso; omega) | exact absurd trivial hab | simp [xf156, hl, h0, h1, cmpD, hab, hab', hlt, hlt']
end
end Go.Proofs.YtbgjmclpahganaaGreat.Eng

/-
  WIDE numbers, C: sums.
-/
namespace Go.Proofs.YtbgjmclpahganaaGreat.Eng
set_option linter.unusedSimpArgs false
set_option linter.unusedVariables false
section
variable {X : FuncId → Option XFunc} (hX : WideCode X)
include hX


omit hX in
/-- What the sum's loop leaves. -/
def P158 (a b : List Int) (i k : Nat) (c : Int) (xs : List Int) (tm' : List AVal) (σ' : Store) : Prop := tm'.length = 42 ∧ ∃ ys, OutL σ' 0 (xs ++ ys) (XOpd.eval tm' (.t 5)) ∧ DOk ys ∧ ys.length ≤ k ∧ dval ys = dval (a.drop i) + dval (b.drop i) + c
omit hX in
/-- One more digit. -/
theorem fin158 {a b : List Int} {i k : Nat} {c x y : Int} {xs : List Int} {r : Option RRes} (hx : x = a.getD i 0) (hy : y = b.getD i 0)
    (h : Ends r (.exit 0) (P158 a b (i + 1) k ((x + y + c) / 1000000000) (xs ++ [(x + y + c) % 1000000000]))) :
    Ends r (.exit 0) (P158 a b i (k + 1) c xs) := by
  obtain ⟨tm', σ', k1, k2, ys, k3, k4, k5, k6⟩ := h
  have dA := dval_dropD a i
  have dB := dval_dropD b i
  rw [← hx] at dA
  rw [← hy] at dB
  refine ⟨tm', σ', k1, k2, (x + y + c) % 1000000000 :: ys, by simpa using k3, DOk.mk (by omega) (by omega) k4, by simp; omega, ?_⟩
  simp only [dval, k6]; omega

theorem loop158 {a b : List Int} {u v : AVal} (ha : DL a u) (hb : DL b v) (oa : DOk a) (ob : DOk b) (na : a.length ≤ 1000) (nb : b.length ≤ 1000) : ∀ (k i : Nat), a.length + b.length + 1 = i + k → ∀ (c : Int) (xs : List Int) (tm : List AVal) (σ : Store), 0 ≤ c → c ≤ 1 → (a.length < i → b.length < i → c = 0) → xs.length = i → tm.length = 42 → XOpd.eval tm (.t 0) = u → XOpd.eval tm (.t 1) = v → OutL σ 0 xs (XOpd.eval tm (.t 5)) → XOpd.eval tm (.t 6) = .int .i64 c → XOpd.eval tm (.t 7) = .int .i64 i →
    Ends (Run X (.code (.loop xf155l0)) tm σ) (.exit 0) (P158 a b i k c xs) := by
  intro k
  induction k with
  | zero =>
    intro i hk c xs tm σ c0 c1 hc hxs hl h0 h1 h5 h6 h7
    have e := hc (by omega) (by omega)
    subst e
    have e1 : a.drop i = [] := List.drop_eq_nil_of_le (by omega)
    have e2 : b.drop i = [] := List.drop_eq_nil_of_le (by omega)
    have l1 : ¬ (i : Int) < a.length := by omega
    have l2 : ¬ (i : Int) < b.length := by omega
    rw [Run_loop]
    have fin : ∀ t, t.length = 42 → XOpd.eval t (.t 5) = XOpd.eval tm (.t 5) → P158 a b i 0 0 xs t σ := fun t k1 k2 => ⟨k1, by rw [k2]; exact ⟨[], by simpa using h5, DOk.nil, by simp, by simp [e1, e2, dval]⟩⟩
    have hz : ¬ (i : Int) < 0 := by omega
    rcases ha with ⟨rfl, rfl⟩ | rfl <;> rcases hb with ⟨rfl, rfl⟩ | rfl <;> simp [xf155l0, hl, h0, h1, h6, h7, l1, l2, hz] <;> exact fin _ (by simp [hl]) (by simp [hl])
  | succ k ih =>
    intro i hk c xs tm σ c0 c1 hc hxs hl h0 h1 h5 h6 h7
    have hz : ¬ (i : Int) < 0 := by omega
    have da := oa.getD i
    have db := ob.getD i
    have hw : IntKind.i64.wrap ((i : Int) + 1) = ((i + 1 : Nat) : Int) := by rw [wrap_i64] <;> omega
    have ha2 := fun σ => w162 hX ha i σ
    have hb2 := fun σ => w162 hX hb i σ
    rw [Run_loop]
    by_cases hgo : (i < a.length ∨ i < b.length) ∨ 0 < c
    · have hn : a.length < i + 1 → b.length < i + 1 → (a.getD i 0 + b.getD i 0 + c) / 1000000000 = 0 := fun _ _ => by
        have z1 : a.getD i 0 = 0 := by rw [List.getD_eq_getElem?_getD, List.getElem?_eq_none (by omega)]; rfl
        have z2 : b.getD i 0 = 0 := by rw [List.getD_eq_getElem?_getD, List.getElem?_eq_none (by omega)]; rfl
        rw [z1, z2]; omega
      refine fin158 (x := a.getD i 0) (y := b.getD i 0) rfl rfl ?_
      generalize a.getD i 0 = x at *
      generalize b.getD i 0 = y at *
      obtain ⟨t, σ1, e1, e2, e3, e4⟩ := app_step (x := (x + y + c) % 1000000000) h5 (Nat.zero_le _) (by omega)
      have w1 : IntKind.i64.wrap (x + y) = x + y := by rw [wrap_i64] <;> omega
      have w2 : IntKind.i64.wrap (x + y + c) = x + y + c := by rw [wrap_i64] <;> omega
      have q1 : (x + y + c).tmod 1000000000 = (x + y + c) % 1000000000 := Int.tmod_eq_emod_of_nonneg (by omega)
      have q2 : (x + y + c).tdiv 1000000000 = (x + y + c) / 1000000000 := Int.tdiv_eq_ediv_of_nonneg (by omega)
      have w3 : IntKind.i64.wrap ((x + y + c) / 1000000000) = (x + y + c) / 1000000000 := by rw [wrap_i64] <;> omega
      have ih' := fun tm => ih (i + 1) (by omega) ((x + y + c) / 1000000000) (xs ++ [(x + y + c) % 1000000000]) tm σ1 (by omega) (by omega) hn (by simp; omega)
      have e1' : xappend (σ.new (.tok 3 1 1)) 3 1 8 (XOpd.eval tm (.t 5)) (.list 1 [.int .i64 ((x + y + c) % 1000000000)] (some σ.next)) = some (t, σ1) := e1
      by_cases l1 : i < a.length <;> by_cases l2 : i < b.length <;> by_cases l3 : 0 < c
      all_goals first | (exfalso; omega) | skip
      all_goals
        rcases ha with ⟨rfl, rfl⟩ | rfl <;> rcases hb with ⟨rfl, rfl⟩ | rfl
      all_goals first | (exfalso; simp at l1; done) | (exfalso; simp at l2; done) | skip
      all_goals
        try (have hxy : x = y := by have := (ha2 σ).symm.trans (hb2 σ); simpa using this)
        try subst hxy
        simp [xf155l0, hl, h0, h1, h6, h7, hz, ha2, hb2, w1, w2, w3, q1, q2, hw, e1, l1, l2, l3, fillR, chunks, mkV, setR, AVal.one]
        exact ih' _ (by simp [hl]) (by simp [hl, h0]) (by simp [hl, h1]) (by simpa [hl] using e2) (by simp [hl]) (by simp [hl])
    · have e : c = 0 := by omega
      subst e
      have e1 : a.drop i = [] := List.drop_eq_nil_of_le (by omega)
      have e2 : b.drop i = [] := List.drop_eq_nil_of_le (by omega)
      have l1 : ¬ (i : Int) < a.length := by omega
      have l2 : ¬ (i : Int) < b.length := by omega
      have fin : ∀ t, t.length = 42 → XOpd.eval t (.t 5) = XOpd.eval tm (.t 5) → P158 a b i (k + 1) 0 xs t σ := fun t k1 k2 => ⟨k1, by rw [k2]; exact ⟨[], by simpa using h5, DOk.nil, by simp, by simp [e1, e2, dval]⟩⟩
      rcases ha with ⟨rfl, rfl⟩ | rfl <;> rcases hb with ⟨rfl, rfl⟩ | rfl <;> simp [xf155l0, hl, h0, h1, h6, h7, l1, l2, hz] <;> exact fin _ (by simp [hl]) (by simp [hl])

/-- What is known of digits. -/
def Digits (n : Nat) (k : Int) (v : AVal) : Prop := ∃ ys, DL ys v ∧ DOk ys ∧ ys.length ≤ n ∧ dval ys = k
theorem w158 {a b : List Int} {u v : AVal} (ha : DL a u) (hb : DL b v) (oa : DOk a) (ob : DOk b) (na : a.length ≤ 1000) (nb : b.length ≤ 1000) : ∃ w, Digits (a.length + b.length + 1) (dval a + dval b) w ∧ ∀ σ, Run X (.call 155) [u, v] σ = some (.ret, [w], σ) := by
  refine call2E hX.h155 (by rw [ha.strip]; exact ha.free) (by rw [hb.strip]; exact hb.free) (by decide) fun tm hl h0 h1 => ?_
  rw [ha.strip] at h0
  rw [hb.strip] at h1
  replace hl : tm.length = 42 := hl
  have hL := fun tm σ h1 h2 h3 h4 h5 h6 => out_of (loop158 hX ha hb oa ob na nb (a.length + b.length + 1) 0 (by omega) 0 [] tm σ (by omega) (by omega) (by simp) (by simp) h1 h2 h3 h4 h5 h6)
  have hLl : ∀ tm σ, _ → _ → _ → _ → _ → _ → (outT X (.loop xf155l0) tm σ).length = 42 := fun tm σ h1 h2 h3 h4 h5 h6 => (hL tm σ h1 h2 h3 h4 h5 h6).2.1
  have hΦ : ∀ tm' σ', P158 a b 0 (a.length + b.length + 1) 0 [] tm' σ' → Told (Digits (a.length + b.length + 1) (dval a + dval b)) (XOpd.eval tm' (.t 5)) := fun tm' σ' ⟨_, ys, k1, k2, k3, k4⟩ => by
    have k5 := k1.strip
    simp at k5 k4
    exact ⟨k5.free, ys, k5, k2, k3, by omega⟩
  have hn : ∀ σ, OutL σ 0 [] .nils := fun σ => .inl ⟨rfl, rfl⟩
  generalize Told (Digits (a.length + b.length + 1) (dval a + dval b)) = Φ at hΦ ⊢
  unfold GivesE
  simp (maxDischargeDepth := 9) [xf155, hl, h0, h1, hL, hLl, hn]
  refine hΦ _ _ (And.right (hL _ _ ?_ ?_ ?_ ?_ ?_ ?_)) <;> simp [hl, h0, h1, hn]
end
end Go.Proofs.YtbgjmclpahganaaGreat.Eng

/-
  WIDE numbers, D: differences, numbers of ints.
-/
namespace Go.Proofs.YtbgjmclpahganaaGreat.Eng
set_option linter.unusedSimpArgs false
set_option linter.unusedVariables false

theorem choose_fn {α β : Type} [Inhabited β] {Q : α → Prop} {R : α → β → Prop} (h : ∀ a, Q a → ∃ b, R a b) : ∃ f : α → β, ∀ a, Q a → R a (f a) := by
  classical
  exact ⟨fun a => if q : Q a then (h a q).choose else default, fun a q => by simp only [q, dif_pos]; exact (h a q).choose_spec⟩

theorem named {α : Type} (Q : α → Prop) : ∃ P : α → Prop, (∀ a, Q a → P a) ∧ ∀ a, P a → Q a := ⟨Q, fun _ h => h, fun _ h => h⟩

/-- What the difference's loop leaves. -/
def P157 (a b : List Int) (i : Nat) (c : Int) (xs : List Int) (tm' : List AVal) (σ' : Store) : Prop := tm'.length = 35 ∧ ∃ ys, OutL σ' 0 (xs ++ ys) (XOpd.eval tm' (.t 5)) ∧ DOk ys ∧ ys.length = a.length - i ∧ dval ys = dval (a.drop i) - dval (b.drop i) - c
theorem fin157 {a b : List Int} {i : Nat} {c c' x y z : Int} {xs : List Int} {r : Option RRes} (hi : i < a.length) (hx : x = a.getD i 0) (hy : y = b.getD i 0) (hz : 0 ≤ z) (hz' : z < 1000000000) (he : z = x - y - c + 1000000000 * c')
    (h : Ends r (.exit 0) (P157 a b (i + 1) c' (xs ++ [z]))) :
    Ends r (.exit 0) (P157 a b i c xs) := by
  obtain ⟨tm', σ', k1, k2, ys, k3, k4, k5, k6⟩ := h
  have dA := dval_dropD a i
  have dB := dval_dropD b i
  rw [← hx] at dA
  rw [← hy] at dB
  refine ⟨tm', σ', k1, k2, z :: ys, by simpa using k3, DOk.mk hz hz' k4, by simp; omega, ?_⟩
  simp only [dval, k6]; omega

section
variable {X : FuncId → Option XFunc} (hX : WideCode X)
include hX
theorem loop157 {a b : List Int} {u v : AVal} (ha : DL a u) (hb : DL b v) (oa : DOk a) (ob : DOk b) (na : a.length ≤ 1000) (nb : b.length ≤ 1000) : ∀ (k i : Nat), a.length = i + k → ∀ (c : Int) (xs : List Int) (tm : List AVal) (σ : Store), 0 ≤ c → c ≤ 1 → dval (b.drop i) + c ≤ dval (a.drop i) → xs.length = i → tm.length = 35 → XOpd.eval tm (.t 0) = u → XOpd.eval tm (.t 1) = v → OutL σ 0 xs (XOpd.eval tm (.t 5)) → XOpd.eval tm (.t 6) = .int .i64 c → XOpd.eval tm (.t 7) = .int .i64 i →
    Ends (Run X (.code (.loop xf157l0)) tm σ) (.exit 0) (P157 a b i c xs) := by
  intro k
  induction k with
  | zero =>
    intro i hk c xs tm σ c0 c1 hc hxs hl h0 h1 h5 h6 h7
    have e1 : a.drop i = [] := List.drop_eq_nil_of_le (by omega)
    have e2 := dval_nonneg (ob.drop i)
    rw [e1] at hc; simp only [dval] at hc
    have l1 : ¬ (i : Int) < a.length := by omega
    rw [Run_loop]
    have fin : ∀ t, t.length = 35 → XOpd.eval t (.t 5) = XOpd.eval tm (.t 5) → P157 a b i c xs t σ := fun t k1 k2 => ⟨k1, by rw [k2]; exact ⟨[], by simpa using h5, DOk.nil, by simp; omega, by simp [e1, dval]; omega⟩⟩
    have hz : ¬ (i : Int) < 0 := by omega
    rcases ha with ⟨rfl, rfl⟩ | rfl <;> simp [xf157l0, hl, h0, h1, h6, h7, l1, hz] <;> exact fin _ (by simp [hl]) (by simp [hl])
  | succ k ih =>
    intro i hk c xs tm σ c0 c1 hc hxs hl h0 h1 h5 h6 h7
    have hi : i < a.length := by omega
    have da := oa.get hi
    have db := ob.getD i
    have hw : IntKind.i64.wrap ((i : Int) + 1) = ((i + 1 : Nat) : Int) := by rw [wrap_i64] <;> omega
    have hb2 := fun σ => w162 hX hb i σ
    have eA : a.getD i 0 = a[i] := by rw [List.getD_eq_getElem?_getD, List.getElem?_eq_getElem hi]; rfl
    have dA := dval_dropD a i
    have dB := dval_dropD b i
    have pB := dval_nonneg (ob.drop (i + 1))
    rw [eA] at dA
    have hvf := hb.free
    rw [Run_loop]
    have w1 : IntKind.i64.wrap (a[i] - b.getD i 0) = a[i] - b.getD i 0 := by rw [wrap_i64] <;> omega
    have w2 : IntKind.i64.wrap (a[i] - b.getD i 0 - c) = a[i] - b.getD i 0 - c := by rw [wrap_i64] <;> omega
    have w3 : IntKind.i64.wrap (a[i] - b.getD i 0 - c + 1000000000) = a[i] - b.getD i 0 - c + 1000000000 := by rw [wrap_i64] <;> omega
    by_cases hneg : a[i] - b.getD i 0 - c < 0
    · refine fin157 (x := a[i]) (y := b.getD i 0) (z := a[i] - b.getD i 0 - c + 1000000000) (c' := 1) hi eA.symm rfl (by omega) (by omega) (by omega) ?_
      have ih' := fun tm σ1 => ih (i + 1) (by omega) 1 (xs ++ [a[i] - b.getD i 0 - c + 1000000000]) tm σ1 (by omega) (by omega) (by omega) (by simp; omega)
      generalize b.getD i 0 = y at *
      obtain ⟨t, σ1, e1, e2, e3, e4⟩ := app_step (x := a[i] - y - c + 1000000000) h5 (Nat.zero_le _) (by omega)
      rcases ha with ⟨rfl, rfl⟩ | rfl
      · simp at hi
      simp [xf157l0, hl, h0, h1, h6, h7, hi, hb2, w1, w2, w3, hw, e1, hneg, fillR, chunks, mkV, setR, AVal.one, Store.only, Store.merge, touch, wrote, upTo, isIn, okRec, hits, capsOf, xcaps, stripL, AVal.strip, freeL, AVal.free, hb.strip, hvf]
      exact ih' _ _ (by simp [hl]) (by simp [hl, h0]) (by simp [hl, h1]) (by simpa [hl] using e2) (by simp [hl]) (by simp [hl])
    · refine fin157 (x := a[i]) (y := b.getD i 0) (z := a[i] - b.getD i 0 - c) (c' := 0) hi eA.symm rfl (by omega) (by omega) (by omega) ?_
      have ih' := fun tm σ1 => ih (i + 1) (by omega) 0 (xs ++ [a[i] - b.getD i 0 - c]) tm σ1 (by omega) (by omega) (by omega) (by simp; omega)
      generalize b.getD i 0 = y at *
      obtain ⟨t, σ1, e1, e2, e3, e4⟩ := app_step (x := a[i] - y - c) h5 (Nat.zero_le _) (by omega)
      rcases ha with ⟨rfl, rfl⟩ | rfl
      · simp at hi
      simp [xf157l0, hl, h0, h1, h6, h7, hi, hb2, w1, w2, w3, hw, e1, hneg, fillR, chunks, mkV, setR, AVal.one, Store.only, Store.merge, touch, wrote, upTo, isIn, okRec, hits, capsOf, xcaps, stripL, AVal.strip, freeL, AVal.free, hb.strip, hvf]
      exact ih' _ _ (by simp [hl]) (by simp [hl, h0]) (by simp [hl, h1]) (by simpa [hl] using e2) (by simp [hl]) (by simp [hl])

/-- What is known of digits without zeros at the end. -/
def NDigits (n : Nat) (k : Int) (v : AVal) : Prop := ∃ ys, DL ys v ∧ DOk ys ∧ DNorm ys ∧ ys.length ≤ n ∧ dval ys = k
theorem w157 {a b : List Int} {u v : AVal} (ha : DL a u) (hb : DL b v) (oa : DOk a) (ob : DOk b) (na : a.length ≤ 1000) (nb : b.length ≤ 1000) (hle : dval b ≤ dval a) : ∃ w, NDigits a.length (dval a - dval b) w ∧ ∀ σ, Run X (.call 157) [u, v] σ = some (.ret, [w], σ) := by
  refine call2E hX.h157 (by rw [ha.strip]; exact ha.free) (by rw [hb.strip]; exact hb.free) (by decide) fun tm hl h0 h1 => ?_
  rw [ha.strip] at h0
  rw [hb.strip] at h1
  replace hl : tm.length = 35 := hl
  have hL := fun tm σ h1 h2 h3 h4 h5 h6 => out_of (loop157 hX ha hb oa ob na nb a.length 0 (by omega) 0 [] tm σ (by omega) (by omega) (by simpa using hle) (by simp) h1 h2 h3 h4 h5 h6)
  have hLl : ∀ tm σ, _ → _ → _ → _ → _ → _ → (outT X (.loop xf157l0) tm σ).length = 35 := fun tm σ h1 h2 h3 h4 h5 h6 => (hL tm σ h1 h2 h3 h4 h5 h6).2.1
  have hΦ : ∀ tm', (∃ σ', P157 a b 0 0 [] tm' σ') → ∃ w, Told (NDigits a.length (dval a - dval b)) w ∧ ∀ σ, Run X (.call 158) [XOpd.eval tm' (.t 5)] σ = some (.ret, [w], σ) := fun tm' ⟨σ', _, ys, k1, k2, k3, k4⟩ => by
    have k5 := k1.strip
    simp at k5 k4 k3
    obtain ⟨w, q1, q2⟩ := w153 hX k5 (by omega)
    exact ⟨w, ⟨by rw [q1.strip]; exact q1.free, trim ys, by rw [q1.strip]; exact q1, trim_ok k2, trim_norm _, by have := trim_length_le ys; omega, by rw [trim_val]; omega⟩, q2⟩
  have hQ : ∀ tm σ, _ → _ → _ → _ → _ → _ → ∃ σ', P157 a b 0 0 [] (outT X (.loop xf157l0) tm σ) σ' := fun tm σ h1 h2 h3 h4 h5 h6 => ⟨_, (hL tm σ h1 h2 h3 h4 h5 h6).2⟩
  have hn : ∀ σ, OutL σ 0 [] .nils := fun σ => .inl ⟨rfl, rfl⟩
  obtain ⟨f, hf⟩ := choose_fn hΦ
  generalize Told (NDigits a.length (dval a - dval b)) = Φ at hf ⊢
  obtain ⟨Q, hq1, hq2⟩ := named (fun tm' => ∃ σ', P157 a b 0 0 [] tm' σ')
  have hQ2 := fun tm σ h1 h2 h3 h4 h5 h6 => hq1 _ (hQ tm σ h1 h2 h3 h4 h5 h6)
  have hf1 := fun tm' h => (hf tm' (hq2 tm' h)).2
  have hf2 := fun tm' h => (hf tm' (hq2 tm' h)).1
  clear hq1 hq2 hf hΦ hQ
  unfold GivesE
  simp (maxDischargeDepth := 9) [xf157, hl, h0, h1, hL, hLl, hn, hQ2, hf1, hf2]
end
end Go.Proofs.YtbgjmclpahganaaGreat.Eng

/-
  WIDE numbers, E: numbers of ints, sums.
-/
namespace Go.Proofs.YtbgjmclpahganaaGreat.Eng
set_option linter.unusedSimpArgs false
set_option linter.unusedVariables false

theorem DL.one {l : List Int} {u : AVal} (h : DL l u) : u.one = true := by rcases h with ⟨rfl, _⟩ | rfl <;> rfl
theorem DL.isM {l : List Int} {u : AVal} (h : DL l u) : u.isM = false := by rcases h with ⟨rfl, _⟩ | rfl <;> rfl
theorem DL.xlen {l : List Int} {u : AVal} (h : DL l u) : xlen u = some (.int .i64 l.length) := by rcases h with ⟨rfl, rfl⟩ | rfl <;> simp [Go.Proofs.YtbgjmclpahganaaGreat.Eng.xlen]
theorem OutL.isM {σ : Store} {m : Nat} {l : List Int} {u : AVal} (h : OutL σ m l u) : u.isM = false := by rcases h with ⟨rfl, _⟩ | ⟨j, _, _, rfl, _⟩ <;> rfl
theorem ab_tdiv (n : Int) : ab n = ab (n.tmod 1000000000) + 1000000000 * ab (n.tdiv 1000000000) ∧ 0 ≤ ab (n.tmod 1000000000) ∧ ab (n.tmod 1000000000) < 1000000000 ∧ 0 ≤ ab (n.tdiv 1000000000) := by
  unfold ab
  have h := Int.mul_tdiv_add_tmod n 1000000000
  by_cases hn : 0 ≤ n
  · have h1 := Int.tmod_eq_emod_of_nonneg (b := 1000000000) hn
    have h2 := Int.tdiv_eq_ediv_of_nonneg (b := 1000000000) hn
    rw [h1, h2]; repeat' split <;> omega
  · have h1 : (-n).tmod 1000000000 = (-n) % 1000000000 := Int.tmod_eq_emod_of_nonneg (by omega)
    have h2 : (-n).tdiv 1000000000 = (-n) / 1000000000 := Int.tdiv_eq_ediv_of_nonneg (by omega)
    rw [Int.neg_tmod] at h1
    rw [Int.neg_tdiv] at h2
    repeat' split <;> omega

/-- What the digits' loop leaves. -/
def P145 (v3 : AVal) (n : Int) (k : Nat) (o : Option NObj) (xs : List Int) (tm' : List AVal) (σ' : Store) : Prop := tm'.length = 20 ∧ (XOpd.eval tm' (.t 2) = .ptr 0 0 ∧ XOpd.eval tm' (.t 3) = v3) ∧ σ'.get 0 = o ∧ ∃ ys, OutL σ' 1 (xs ++ ys) (XOpd.eval tm' (.t 4)) ∧ DOk ys ∧ DNorm ys ∧ ys.length ≤ k ∧ dval ys = ab n
theorem fin145 {v3 : AVal} {n : Int} {k : Nat} {o : Option NObj} {xs : List Int} {r : Option RRes} (hn : n ≠ 0) (h : Ends r (.exit 0) (P145 v3 (n.tdiv 1000000000) k o (xs ++ [ab (n.tmod 1000000000)]))) :
    Ends r (.exit 0) (P145 v3 n (k + 1) o xs) := by
  obtain ⟨tm', σ', k1, k2, k0, k00, ys, k3, k4, k7, k5, k6⟩ := h
  obtain ⟨a1, a2, a3, a4⟩ := ab_tdiv n
  refine ⟨tm', σ', k1, k2, k0, k00, ab (n.tmod 1000000000) :: ys, by simpa using k3, DOk.mk a2 a3 k4, fun i hi => ?_, by simp; omega, by simp only [dval, k6]; omega⟩
  cases i with
  | zero =>
    have : ys = [] := List.eq_nil_of_length_eq_zero (by simpa using hi.symm)
    subst this
    simp [dval] at k6
    simp
    intro h0
    have : ab n = 0 := by omega
    apply hn; simp only [ab] at this; split at this <;> omega
  | succ i => have := k7 i (by simp at hi; omega); simpa using this
section
variable {X : FuncId → Option XFunc} (hX : WideCode X)
include hX

theorem loop145 (v3 : AVal) : ∀ (k : Nat) (n : Int), ab n < pw k → -9223372036854775808 < n → n ≤ 9223372036854775807 → ∀ (xs : List Int) (o : Option NObj) (tm : List AVal) (σ : Store), xs.length + k ≤ 1000 → 1 ≤ σ.next → σ.get 0 = o → tm.length = 20 → XOpd.eval tm (.t 0) = .int .i64 n → XOpd.eval tm (.t 2) = .ptr 0 0 → XOpd.eval tm (.t 3) = v3 → OutL σ 1 xs (XOpd.eval tm (.t 4)) →
    Ends (Run X (.code (.loop xf126l0)) tm σ) (.exit 0) (P145 v3 n k o xs) := by
  intro k
  induction k with
  | zero =>
    intro n hk n1 n2 xs o tm σ hxs hnx hg hl h0 h2 h3 h4
    have e : n = 0 := by simp only [pw, ab] at hk; split at hk <;> omega
    subst e
    rw [Run_loop]
    have fin : ∀ t, t.length = 20 → (XOpd.eval t (.t 2) = .ptr 0 0 ∧ XOpd.eval t (.t 3) = v3) → XOpd.eval t (.t 4) = XOpd.eval tm (.t 4) → P145 v3 0 0 o xs t σ := fun t k1 k0 k2 => ⟨k1, k0, hg, by rw [k2]; exact ⟨[], by simpa using h4, DOk.nil, fun i hi => by simp at hi, by simp, by simp [dval, ab]⟩⟩
    simp [xf126l0, hl, h0]
    exact fin _ (by simp [hl]) (by simp [hl, h2, h3]) (by simp [hl])
  | succ k ih =>
    intro n hk n1 n2 xs o tm σ hxs hnx hg hl h0 h2 h3 h4
    rw [Run_loop]
    by_cases hn : n = 0
    · subst hn
      have fin : ∀ t, t.length = 20 → (XOpd.eval t (.t 2) = .ptr 0 0 ∧ XOpd.eval t (.t 3) = v3) → XOpd.eval t (.t 4) = XOpd.eval tm (.t 4) → P145 v3 0 (k + 1) o xs t σ := fun t k1 k0 k2 => ⟨k1, k0, hg, by rw [k2]; exact ⟨[], by simpa using h4, DOk.nil, fun i hi => by simp at hi, by simp, by simp [dval, ab]⟩⟩
      simp [xf126l0, hl, h0]
      exact fin _ (by simp [hl]) (by simp [hl, h2, h3]) (by simp [hl])
    · refine fin145 hn ?_
      obtain ⟨a1, a2, a3, a4⟩ := ab_tdiv n
      have hb := Int.mul_tdiv_add_tmod n 1000000000
      have t1 : -9223372036854775808 < n.tmod 1000000000 ∧ n.tmod 1000000000 ≤ 9223372036854775807 := by simp only [ab] at a3; split at a3 <;> omega
      have t2 : -9223372036854775808 < n.tdiv 1000000000 ∧ n.tdiv 1000000000 ≤ 9223372036854775807 := by simp only [ab] at a1 a3 a2; repeat' (split at a1) <;> omega
      have w1 : IntKind.i64.wrap (n.tdiv 1000000000) = n.tdiv 1000000000 := by rw [wrap_i64] <;> omega
      have h149 := w149 hX (n.tmod 1000000000) t1.1 t1.2
      obtain ⟨t, σ1, e1, e2, e3, e4⟩ := app_step (x := ab (n.tmod 1000000000)) h4 hnx (by omega)
      have ih' := fun tm => ih (n.tdiv 1000000000) (by simp only [pw] at hk; omega) t2.1 t2.2 (xs ++ [ab (n.tmod 1000000000)]) o tm σ1 (by simp; omega) e4 (by rw [e3 0 (by omega)]; exact hg)
      simp [xf126l0, hl, h0, hn, h149, w1, e1, fillR, chunks, mkV, setR, AVal.one]
      exact ih' _ (by simp [hl]) (by simp [hl]) (by simp [hl, h2]) (by simp [hl, h3]) (by simpa [hl] using e2)

theorem w145 (n : Int) (n1 : -9223372036854775808 < n) (n2 : n ≤ 9223372036854775807) : ∃ w, IsW n w ∧ ∀ σ, Run X (.call 126) [.int .i64 n] σ = some (.ret, [w], σ) := by
  refine call1E hX.h126 rfl (by decide) fun tm hl h0 => ?_
  simp only [AVal.strip] at h0
  replace hl : tm.length = 20 := hl
  have hb : ab n < pw 3 := by simp only [pw, ab]; split <;> omega
  have hn : ∀ σ, OutL σ 1 [] .nils := fun σ => .inl ⟨rfl, rfl⟩
  have hΦ : ∀ w, IsW n w → Told (IsW n) w := fun w h => ⟨by rw [h.strip]; exact h.free, by rw [h.strip]; exact h⟩
  unfold GivesE
  have fin : ∀ (ys : List Int) (u : AVal), DL ys u → DOk ys → DNorm ys → dval ys = ab n → Told (IsW n) (.agg [.int .i64 (if ys = [] then 0 else if n < 0 then -1 else 1), u]) := fun ys u q1 k6 k7 k9 => by
    have e : (if ys = [] then 0 else if n < 0 then -1 else 1) = sgn n := by
      by_cases hy : ys = []
      · subst hy; simp [dval, ab] at k9; simp only [sgn]; simp; repeat' split at k9 <;> omega
      · rw [if_neg hy]
        have : n ≠ 0 := by rintro rfl; exact hy (dval_zero k6 k7 (by simpa [ab] using k9))
        simp only [sgn]; repeat' split <;> omega
    rw [e]
    exact hΦ _ ⟨ys, u, rfl, q1, k6, k7, k9⟩
  generalize Told (IsW n) = Φ at fin ⊢
  clear hΦ
  by_cases hneg : n < 0
  all_goals
    simp only [hneg, if_true, if_false] at fin
    simp [xf126, hl, h0, hneg, Store.empty, Store.new, Store.put, Store.get, look, putL]
    generalize hR : Run X (.code (.loop xf126l0)) _ _ = R
    have hE : Ends R (.exit 0) (P145 (.int .i64 (if n < 0 then -1 else 1)) n 3 (some (.cells [.int .i64 0, .nils])) []) := by
      rw [← hR]
      refine loop145 hX _ 3 n hb n1 n2 [] _ _ _ (by simp) (by simp) (by simp [Store.get, look]) ?_ ?_ ?_ ?_ ?_ <;> simp [hl, h0, hn, hneg]
    clear hR
    obtain ⟨tm', σ', rfl, k1, ⟨k2, k3⟩, k4, ys, k5, k6, k7, k8, k9⟩ := hE
    simp only [List.nil_append] at k5
    obtain ⟨u, q1, q2⟩ := w143 hX k5.strip (by omega) (if n < 0 then -1 else 1)
    rw [trim_of_norm k7] at q1 q2
    have := fin ys u q1 k6 k7 k9
    simp only [hneg, if_true, if_false] at k3
    simp only [hneg, if_true, if_false] at q2
    simp [k1, k2, k3, k4, xmovf_of k5.isM, q2, q1.one, setR, Store.get_put, Mem.put_self]
    simpa using this
end
end Go.Proofs.YtbgjmclpahganaaGreat.Eng

/-
  WIDE numbers, F: sums and comparison.
-/
namespace Go.Proofs.YtbgjmclpahganaaGreat.Eng
set_option linter.unusedSimpArgs false
set_option linter.unusedVariables false

theorem sgn_cases (n : Int) : (n < 0 ∧ sgn n = -1 ∧ ab n = -n) ∨ (n = 0 ∧ sgn n = 0 ∧ ab n = 0) ∨ (0 < n ∧ sgn n = 1 ∧ ab n = n) := by
  unfold sgn ab
  by_cases h : n < 0
  · exact .inl ⟨h, by rw [if_pos h], by rw [if_pos h]⟩
  · by_cases h2 : 0 < n
    · exact .inr (.inr ⟨h2, by rw [if_neg h, if_pos h2], by rw [if_neg h]⟩)
    · have : n = 0 := by omega
      subst this; exact .inr (.inl ⟨rfl, rfl, rfl⟩)
/-- A number from its digits. -/
theorem mkW {n s : Int} {ys : List Int} {u : AVal} (h1 : DL ys u) (h2 : DOk ys) (h3 : DNorm ys) (h4 : dval ys = ab n) (h5 : n ≠ 0 → s = sgn n) : IsW n (.agg [.int .i64 (if ys = [] then 0 else s), u]) := by
  refine ⟨ys, u, ?_, h1, h2, h3, h4⟩
  by_cases hy : ys = []
  · subst hy
    have : n = 0 := by rcases sgn_cases n with h | h | h <;> simp [dval] at h4 <;> omega
    subst this; simp [sgn]
  · rw [if_neg hy, h5 (by rintro rfl; exact hy (dval_zero h2 h3 (by simpa [ab] using h4)))]
theorem IsW.told {n : Int} : ∀ w, IsW n w → Told (IsW n) w := fun w h => ⟨by rw [h.strip]; exact h.free, by rw [h.strip]; exact h⟩
theorem isW0 : IsW 0 (.agg [.int .i64 0, .nils]) := ⟨[], .nils, rfl, .inl ⟨rfl, rfl⟩, DOk.nil, fun i hi => by simp at hi, rfl⟩

section
variable {X : FuncId → Option XFunc} (hX : WideCode X)
include hX

theorem w148 {a b : Int} {va vb : AVal} (ha : IsW a va) (hb : IsW b vb) (sa : Small a) (sb : Small b) : ∃ w, IsW (a + b) w ∧ ∀ σ, Run X (.call 145) [va, vb] σ = some (.ret, [w], σ) := by
  refine call2E hX.h145 (by rw [ha.strip]; exact ha.free) (by rw [hb.strip]; exact hb.free) (by decide) fun tm hl h0 h1 => ?_
  rw [ha.strip] at h0
  rw [hb.strip] at h1
  replace hl : tm.length = 53 := hl
  have hA := IsW.told (n := a + b)
  unfold Small at sa sb
  obtain ⟨la, da, rfl, Da, oa, na, ea⟩ := id ha
  obtain ⟨lb, db, rfl, Db, ob, nb, eb⟩ := id hb
  have lla := len_le oa na (by rw [ea]; exact sa)
  have llb := len_le ob nb (by rw [eb]; exact sb)
  rcases sgn_cases a with ⟨c1, c2, c3⟩ | ⟨c1, c2, c3⟩ | ⟨c1, c2, c3⟩
  case inr.inl =>
    subst c1
    rw [Int.zero_add] at hA ⊢
    have := hA _ hb
    generalize Told (IsW b) = Φ at this ⊢
    unfold GivesE
    simp [xf145, hl, h0, h1, c2, Store.empty, Store.new, Store.put, Store.get, look, putL, setR, Db.one]
    exact this
  all_goals rcases sgn_cases b with ⟨d1, d2, d3⟩ | ⟨d1, d2, d3⟩ | ⟨d1, d2, d3⟩
  case inl.inr.inl | inr.inr.inr.inl =>
    subst d1
    rw [Int.add_zero] at hA ⊢
    have := hA _ ha
    generalize Told (IsW a) = Φ at this ⊢
    rw [c2] at this
    unfold GivesE
    simp [xf145, hl, h0, h1, c2, d2, Store.empty, Store.new, Store.put, Store.get, look, putL, setR, Da.one]
    exact this
  case inl.inl | inr.inr.inr.inr =>
    obtain ⟨w, ⟨ys, k1, k2, k3, k4⟩, k5⟩ := w158 hX Da Db oa ob (by omega) (by omega)
    obtain ⟨u, q1, q2⟩ := w143 hX (v := w) (by rw [k1.strip]; exact k1) (by omega) (sgn a)
    have := hA _ (mkW (n := a + b) (s := sgn a) q1 (trim_ok k2) (trim_norm _) (by rw [trim_val, k4, ea, eb]; simp only [ab]; repeat' split <;> omega) (fun _ => by simp only [sgn]; repeat' split <;> omega))
    generalize Told (IsW (a + b)) = Φ at this ⊢
    rw [c2] at q2 this
    unfold GivesE
    simp [xf145, hl, h0, h1, c2, d2, k5, q2, Store.empty, Store.new, Store.put, Store.get, look, putL, setR, Da.one, Db.one, q1.one, Da.strip, Da.free, Db.strip, Db.free, k1.strip, k1.free, Store.only, Store.merge, touch, wrote, upTo, isIn, okRec, hits, capsOf, xcaps, stripL, AVal.strip, freeL, AVal.free]
    exact this
  all_goals
    have h156 := w156 hX Da Db (by omega) (by omega)
    rw [cmpD_spec oa ob na nb, ea, eb] at h156
    have e3 : sgn (ab a - ab b) = sgn (ab a - ab b) := rfl
    rcases sgn_cases (ab a - ab b) with ⟨f1, f2, f3⟩ | ⟨f1, f2, f3⟩ | ⟨f1, f2, f3⟩
  case inl.inr.inr.inr.inl | inr.inr.inl.inr.inl =>
    have e0 : a + b = 0 := by omega
    rw [e0] at hA ⊢
    have := hA _ isW0
    generalize Told (IsW 0) = Φ at this ⊢
    rw [f2] at h156
    unfold GivesE
    simp [xf145, hl, h0, h1, c2, d2, h156, fillR, Store.empty, Store.new, Store.put, Store.get, look, putL, setR]
    exact this
  case inl.inr.inr.inl | inr.inr.inl.inl =>
    obtain ⟨w, ⟨ys, k1, k2, k6, k3, k4⟩, k5⟩ := w157 hX Db Da ob oa (by omega) (by omega) (by omega)
    obtain ⟨u, q1, q2⟩ := w143 hX (v := w) (by rw [k1.strip]; exact k1) (by omega) (sgn b)
    have := hA _ (mkW (n := a + b) (s := sgn b) q1 (trim_ok k2) (trim_norm _) (by rw [trim_val, k4, ea, eb]; simp only [ab]; repeat' split <;> omega) (fun _ => by simp only [sgn]; repeat' split <;> omega))
    generalize Told (IsW (a + b)) = Φ at this ⊢
    rw [f2] at h156
    rw [d2] at q2 this
    unfold GivesE
    simp [xf145, hl, h0, h1, c2, d2, h156, k5, q2, Store.empty, Store.new, Store.put, Store.get, look, putL, setR, Da.one, Db.one, q1.one, Da.strip, Da.free, Db.strip, Db.free, k1.strip, k1.free, Store.only, Store.merge, touch, wrote, upTo, isIn, okRec, hits, capsOf, xcaps, stripL, AVal.strip, freeL, AVal.free]
    exact this
  all_goals
    obtain ⟨w, ⟨ys, k1, k2, k6, k3, k4⟩, k5⟩ := w157 hX Da Db oa ob (by omega) (by omega) (by omega)
    obtain ⟨u, q1, q2⟩ := w143 hX (v := w) (by rw [k1.strip]; exact k1) (by omega) (sgn a)
    have := hA _ (mkW (n := a + b) (s := sgn a) q1 (trim_ok k2) (trim_norm _) (by rw [trim_val, k4, ea, eb]; simp only [ab]; repeat' split <;> omega) (fun _ => by simp only [sgn]; repeat' split <;> omega))
    generalize Told (IsW (a + b)) = Φ at this ⊢
    rw [f2] at h156
    rw [c2] at q2 this
    unfold GivesE
    simp [xf145, hl, h0, h1, c2, d2, h156, k5, q2, Store.empty, Store.new, Store.put, Store.get, look, putL, setR, Da.one, Db.one, q1.one, Da.strip, Da.free, Db.strip, Db.free, k1.strip, k1.free, Store.only, Store.merge, touch, wrote, upTo, isIn, okRec, hits, capsOf, xcaps, stripL, AVal.strip, freeL, AVal.free]
    exact this

theorem w142 {a b : Int} {va vb : AVal} (ha : IsW a va) (hb : IsW b vb) (sa : Small a) (sb : Small b) : ∃ w, IsW (a - b) w ∧ ∀ σ, Run X (.call 146) [va, vb] σ = some (.ret, [w], σ) := by
  refine call2E hX.h146 (by rw [ha.strip]; exact ha.free) (by rw [hb.strip]; exact hb.free) (by decide) fun tm hl h0 h1 => ?_
  rw [ha.strip] at h0
  rw [hb.strip] at h1
  replace hl : tm.length = 9 := hl
  obtain ⟨u, u1, u2⟩ := w147 hX hb
  have sb' : Small (-b) := by unfold Small at *; have : ab (-b) = ab b := by (simp only [ab]; repeat' split <;> omega)
                              rw [this]; exact sb
  obtain ⟨w, w1, w2⟩ := w148 hX ha u1 sa sb'
  have := IsW.told _ w1
  rw [← Int.sub_eq_add_neg] at this
  generalize Told (IsW (a - b)) = Φ at this ⊢
  have f1 := ha.free; have f2 := ha.strip; have f3 := hb.free; have f4 := hb.strip; have f5 := u1.free; have f6 := u1.strip
  obtain ⟨la, da, rfl, Da, _⟩ := id ha
  obtain ⟨lb, db, rfl, Db, _⟩ := id hb
  obtain ⟨lu, du, rfl, Du, _⟩ := id u1
  obtain ⟨lw, dw, rfl, Dw, _⟩ := id w1
  unfold GivesE
  simp [xf146, hl, h0, h1, u2, w2, Store.empty, Store.new, Store.put, Store.get, look, putL, setR, Da.one, Db.one, Du.one, Dw.one, Da.strip, Da.free, Db.strip, Db.free, Du.strip, Du.free, Dw.strip, Dw.free, Store.only, Store.merge, touch, wrote, upTo, isIn, okRec, hits, capsOf, xcaps, stripL, AVal.strip, freeL, AVal.free, List.range_zero, List.range_succ]
  exact this

theorem w114 {a b : Int} {va vb : AVal} (ha : IsW a va) (hb : IsW b vb) (sa : Small a) (sb : Small b) (σ : Store) : Run X (.call 124) [va, vb] σ = some (.ret, [.int .i64 (sgn (a - b))], σ) := by
  refine call2 (v := .int .i64 (sgn (a - b))) hX.h124 (by rw [ha.strip]; exact ha.free) (by rw [hb.strip]; exact hb.free) (by decide) (fun tm hl h0 h1 => ?_) rfl σ
  rw [ha.strip] at h0
  rw [hb.strip] at h1
  replace hl : tm.length = 9 := hl
  obtain ⟨w, w1, w2⟩ := w142 hX ha hb sa sb
  obtain ⟨la, da, rfl, Da, _⟩ := id ha
  obtain ⟨lb, db, rfl, Db, _⟩ := id hb
  obtain ⟨lw, dw, rfl, Dw, _⟩ := id w1
  unfold Gives
  simp [xf124, hl, h0, h1, w2, Store.empty, Store.new, Store.put, Store.get, look, putL]

theorem w154 {a : Int} {va : AVal} (ha : IsW a va) (σ : Store) : Run X (.call 152) [va] σ = some (.ret, [.int .i64 (sgn a)], σ) := by
  refine call1 (v := .int .i64 (sgn a)) hX.h152 (by rw [ha.strip]; exact ha.free) (by decide) (fun tm hl h0 => ?_) rfl σ
  rw [ha.strip] at h0
  replace hl : tm.length = 5 := hl
  obtain ⟨la, da, rfl, Da, _⟩ := id ha
  unfold Gives
  simp [xf152, hl, h0, Store.empty, Store.new, Store.put, Store.get, look, putL]

theorem w161 {a : Int} {va : AVal} (ha : IsW a va) : ∃ w, IsW (ab a) w ∧ ∀ σ, Run X (.call 159) [va] σ = some (.ret, [w], σ) := by
  refine call1E hX.h159 (by rw [ha.strip]; exact ha.free) (by decide) fun tm hl h0 => ?_
  rw [ha.strip] at h0
  replace hl : tm.length = 9 := hl
  obtain ⟨u, u1, u2⟩ := w147 hX ha
  have hA := IsW.told (n := ab a)
  rcases sgn_cases a with ⟨c1, c2, c3⟩ | ⟨c1, c2, c3⟩ | ⟨c1, c2, c3⟩
  · rw [c3] at hA ⊢
    have := hA _ u1
    generalize Told (IsW (-a)) = Φ at this ⊢
    obtain ⟨la, da, rfl, Da, _⟩ := id ha
    obtain ⟨lu, du, rfl, Du, _⟩ := id u1
    rw [c2] at h0 u2
    unfold GivesE
    simp [xf159, hl, h0, u2, Store.empty, Store.new, Store.put, Store.get, look, putL, setR, Du.one]
    exact this
  all_goals
    have := hA _ (show IsW (ab a) va by rw [c3]; first | exact ha | (rw [← c1]; exact ha))
    generalize Told (IsW (ab a)) = Φ at this ⊢
    obtain ⟨la, da, rfl, Da, _⟩ := id ha
    rw [c2] at h0 this
    unfold GivesE
    simp [xf159, hl, h0, u2, Store.empty, Store.new, Store.put, Store.get, look, putL, setR, Da.one]
    exact this
end
end Go.Proofs.YtbgjmclpahganaaGreat.Eng

/-
  DIGITS: products as they are computed.
-/
namespace Go.Proofs.YtbgjmclpahganaaGreat.Eng
set_option linter.unusedSimpArgs false
set_option linter.unusedVariables false

def inner (o : List Int) (pos : Nat) : List Int → Int → Int → List Int × Int
  | [], _, c => (o, c)
  | y :: bs, x, c => inner (o.set pos ((o.getD pos 0 + x * y + c) % 1000000000)) (pos + 1) bs x ((o.getD pos 0 + x * y + c) / 1000000000)
def row (o : List Int) (i : Nat) (b : List Int) (x : Int) : List Int :=
  (inner o i b x 0).1.set (i + b.length) ((inner o i b x 0).1.getD (i + b.length) 0 + (inner o i b x 0).2)
def rows (b : List Int) : List Int → Nat → List Int → List Int
  | o, _, [] => o
  | o, i, x :: as => rows b (row o i b x) (i + 1) as
theorem inner_len : ∀ (bs : List Int) (o : List Int) (pos : Nat) (x c : Int), (inner o pos bs x c).1.length = o.length
  | [], _, _, _, _ => rfl
  | y :: bs, o, pos, x, c => by simp only [inner]; rw [inner_len bs]; simp
theorem row_len (o : List Int) (i : Nat) (b : List Int) (x : Int) : (row o i b x).length = o.length := by simp [row, inner_len]
theorem getD_take_drop {o : List Int} {p : Nat} (h : p < o.length) : o.drop p = o.getD p 0 :: o.drop (p + 1) := by
  rw [List.getD_eq_getElem?_getD, List.getElem?_eq_getElem h]; exact List.drop_eq_getElem_cons h
theorem inner_row : ∀ (bs : List Int) (o : List Int) (pos : Nat) (x c : Int), pos + bs.length < o.length →
    (inner o pos bs x c).1.set (pos + bs.length) ((inner o pos bs x c).1.getD (pos + bs.length) 0 + (inner o pos bs x c).2) = o.take pos ++ mrow (o.drop pos) bs x c
  | [], o, pos, x, c, h => by
    simp only [List.length_nil, Nat.add_zero] at h
    simp only [inner, List.length_nil, Nat.add_zero]
    rw [getD_take_drop h, mrow, List.set_eq_take_append_cons_drop, if_pos h]
  | y :: bs, o, pos, x, c, h => by
    simp only [List.length_cons] at h
    have ih := inner_row bs (o.set pos ((o.getD pos 0 + x * y + c) % 1000000000)) (pos + 1) x ((o.getD pos 0 + x * y + c) / 1000000000) (by simp; omega)
    simp only [inner, List.length_cons]
    rw [show pos + (bs.length + 1) = pos + 1 + bs.length from by omega, ih, getD_take_drop (o := o) (p := pos) (by omega), mrow]
    have e1 : (o.set pos ((o.getD pos 0 + x * y + c) % 1000000000)).take (pos + 1) = o.take pos ++ [(o.getD pos 0 + x * y + c) % 1000000000] := by
      rw [List.take_succ_eq_append_getElem (by simp; omega), List.take_set_of_le (Nat.le_refl _)]; simp
    have e2 : (o.set pos ((o.getD pos 0 + x * y + c) % 1000000000)).drop (pos + 1) = o.drop (pos + 1) := by
      rw [List.drop_set_of_lt (by omega)]
    rw [e1, e2]; simp
theorem row_eq {o : List Int} {i : Nat} {b : List Int} (x : Int) (h : i + b.length < o.length) : row o i b x = o.take i ++ mrow (o.drop i) b x 0 := inner_row b o i x 0 h
theorem rows_eq (b : List Int) : ∀ (as : List Int) (o : List Int) (i : Nat), i + as.length + b.length < o.length → rows b o i as = o.take i ++ mulD (o.drop i) as b
  | [], o, i, h => by
    simp only [rows]
    cases hd : o.drop i with
    | nil => simp [mulD, ← hd]
    | cons d m => rw [mulD, ← hd]; simp
  | x :: as, o, i, h => by
    simp only [List.length_cons] at h
    simp only [rows]
    have hr := row_eq (o := o) (i := i) (b := b) x (by omega)
    have ih := rows_eq b as (row o i b x) (i + 1) (by rw [row_len]; omega)
    rw [ih]
    have hi : i < o.length := by omega
    have hd := getD_take_drop hi
    have hl := mrow_len (o.drop i) b x 0
    cases hm : mrow (o.drop i) b x 0 with
    | nil => rw [hm] at hl; simp at hl; omega
    | cons e m =>
      rw [hd] at hm
      rw [hd, mulD, hm]
      rw [← hd] at hm
      rw [hr, hm]
      have l1 : (o.take i).length = i := by simp; omega
      rw [List.take_append, List.drop_append, l1]
      rw [List.take_of_length_le (by omega), List.drop_eq_nil_of_le (by omega)]
      simp [show i + 1 - i = 1 from by omega]
theorem mrow_ok : ∀ (b o : List Int) (x c : Int), DOk o → DOk b → 0 ≤ x → x < 1000000000 → 0 ≤ c → c < 1000000000 → o.getD b.length 0 = 0 → DOk (mrow o b x c)
  | _, [], _, _, _, _, _, _, _, _, _ => DOk.nil
  | [], d :: o, x, c, ho, hb, x0, x1, c0, c1, h => by
    have := ho.cons
    simp at h; subst h
    simp only [mrow]; exact DOk.mk (by omega) (by omega) this.2
  | y :: b, d :: o, x, c, ho, hb, x0, x1, c0, c1, h => by
    have h1 := ho.cons; have h2 := hb.cons
    have p1 : 0 ≤ x * y := Int.mul_nonneg x0 h2.1.1
    have p2 : x * y ≤ 999999999 * 999999999 := Int.mul_le_mul (by omega) (by omega) h2.1.1 (by omega)
    simp only [mrow]
    exact DOk.mk (by omega) (by omega) (mrow_ok b o x _ h1.2 h2.2 x0 x1 (by omega) (by omega) (by simpa using h))
theorem mrow_rest : ∀ (b o : List Int) (x c : Int) (j : Nat), b.length < j → (mrow o b x c).getD j 0 = o.getD j 0
  | _, [], _, _, _, _ => rfl
  | [], d :: o, x, c, j, h => by
    cases j with
    | zero => simp at h
    | succ j => simp [mrow]
  | y :: b, d :: o, x, c, j, h => by
    cases j with
    | zero => simp at h
    | succ j => have := mrow_rest b o x ((d + x * y + c) / 1000000000) j (by simpa using h); simpa [mrow] using this
/-- What stands after some rows. -/
structure RowOk (o : List Int) (N p : Nat) : Prop where
  len : o.length = N
  ok : DOk o
  zero : ∀ j, p ≤ j → o.getD j 0 = 0
theorem RowOk.next {o : List Int} {N i : Nat} {b : List Int} {x : Int} (h : RowOk o N (i + b.length)) (hb : DOk b) (x0 : 0 ≤ x) (x1 : x < 1000000000) (hN : i + b.length < N) : RowOk (row o i b x) N (i + 1 + b.length) := by
  have e := row_eq (o := o) (i := i) (b := b) x (by rw [h.len]; exact hN)
  have hz : (o.drop i).getD b.length 0 = 0 := by rw [List.getD_eq_getElem?_getD, List.getElem?_drop, ← List.getD_eq_getElem?_getD]; exact h.zero _ (Nat.le_refl _)
  refine ⟨by rw [row_len, h.len], by rw [e]; exact (h.ok.take i).append (mrow_ok b _ x 0 (h.ok.drop i) hb x0 x1 (by omega) (by omega) hz), fun j hj => ?_⟩
  have l1 : (o.take i).length = i := by simp [h.len]; omega
  rw [e, List.getD_eq_getElem?_getD, List.getElem?_append_right (by omega), l1, ← List.getD_eq_getElem?_getD, mrow_rest _ _ _ _ _ (by omega), List.getD_eq_getElem?_getD, List.getElem?_drop, ← List.getD_eq_getElem?_getD]
  exact h.zero _ (by omega)
theorem RowOk.rows {N : Nat} {b : List Int} (hb : DOk b) : ∀ (as : List Int) (o : List Int) (i : Nat), RowOk o N (i + b.length) → DOk as → i + as.length + b.length < N → DOk (rows b o i as)
  | [], o, i, h, _, _ => h.ok
  | x :: as, o, i, h, ha, hN => by
    have h1 := ha.cons
    simp only [List.length_cons] at hN
    have := RowOk.rows hb as _ (i + 1) (h.next hb h1.1.1 h1.1.2 (by omega)) h1.2 (by omega)
    simpa only [Go.Proofs.YtbgjmclpahganaaGreat.Eng.rows] using this
theorem RowOk.zeros (N p : Nat) : RowOk (List.replicate N 0) N p := ⟨by simp, fun x hx => by rw [List.mem_replicate] at hx; omega, fun j hj => by
  rw [List.getD_eq_getElem?_getD, List.getElem?_replicate]; split <;> rfl⟩
/-- The carry and the digits of a row stay small. -/
theorem inner_ok : ∀ (bs : List Int) (o : List Int) (pos : Nat) (x c : Int), DOk o → DOk bs → 0 ≤ x → x < 1000000000 → 0 ≤ c → c < 1000000000 → DOk (inner o pos bs x c).1 ∧ 0 ≤ (inner o pos bs x c).2 ∧ (inner o pos bs x c).2 < 1000000000
  | [], o, pos, x, c, ho, hb, x0, x1, c0, c1 => ⟨ho, c0, c1⟩
  | y :: bs, o, pos, x, c, ho, hb, x0, x1, c0, c1 => by
    have h2 := hb.cons
    have hd := ho.getD pos
    have p1 : 0 ≤ x * y := Int.mul_nonneg x0 h2.1.1
    have p2 : x * y ≤ 999999999 * 999999999 := Int.mul_le_mul (by omega) (by omega) h2.1.1 (by omega)
    simp only [inner]
    refine inner_ok bs _ _ x _ (fun z hz => ?_) h2.2 x0 x1 (by omega) (by omega)
    rcases List.mem_or_eq_of_mem_set hz with hz | rfl
    · exact ho z hz
    · omega
end Go.Proofs.YtbgjmclpahganaaGreat.Eng

/-
  WIDE numbers, G: products.
-/
namespace Go.Proofs.YtbgjmclpahganaaGreat.Eng
set_option linter.unusedSimpArgs false
set_option linter.unusedVariables false

theorem isIn_mem (l : List Nat) (n : Nat) : isIn l n = true ↔ n ∈ l := by
  simp only [isIn, List.any_eq_true]
  constructor
  · rintro ⟨x, h1, h2⟩; have := Nat.eq_of_beq_eq_true h2; subst this; exact h1
  · intro h; exact ⟨n, h, by simp⟩
theorem only_get (σ : Store) (l : List Nat) (n : Nat) : (σ.only l).get n = if isIn l n then σ.get n else none := by
  by_cases h : isIn l n = true
  · rw [if_pos h]; exact look_filterMap_mem l n ((isIn_mem l n).1 h)
  · rw [if_neg h]
    cases hg : (σ.only l).get n with
    | none => rfl
    | some o => exact absurd ((isIn_mem l n).2 (look_filterMap_in l n o hg)) h
theorem merge_get' (σ τ : Store) (wr : List Nat) (n : Nat) : (σ.merge τ wr).get n = if isIn wr n then τ.get n else σ.get n := by
  simp only [Store.merge, Store.get, look_append]
  rw [look_filter (p := fun k => isIn wr k), look_filter (p := fun k => !isIn wr k)]
  by_cases h : isIn wr n = true
  · simp [h]; cases look τ.objs n <;> rfl
  · simp [h]
theorem merge_only (σ : Store) (l : List Nat) : σ.merge (σ.only l) [] = σ := by
  have : ∀ m : List (Nat × NObj), m.filter (fun _ => false) = [] := fun m => by induction m <;> simp_all
  simp [Store.merge, Store.only, isIn, this]
theorem idx_add (k : IntKind) (a b : Nat) : idx (.int k ((a : Int) + (b : Int))) = some (a + b) := by
  have : ((a : Int) + (b : Int)) = ((a + b : Nat) : Int) := by omega
  rw [this]; rfl
theorem only_next (σ : Store) (l : List Nat) : (σ.only l).next = σ.next := rfl
theorem merge_next (σ τ : Store) (wr : List Nat) : (σ.merge τ wr).next = τ.next := rfl
theorem put_next (σ : Store) (n : Nat) (o : NObj) : (σ.put n o).next = σ.next := rfl
theorem upTo_self (n : Nat) : upTo n n = [] := by simp [upTo]
theorem put_get (g : Mem) (n m : Nat) (o : NObj) : g.put n o m = if n = m then some o else g m := rfl

def Mat (a b o : List Int) (sa sb : Int) (da db : AVal) (σ : Store) : Prop := σ.get 0 = some (.cells [.int .i64 sa, da]) ∧ σ.get 1 = some (.cells [.int .i64 sb, db]) ∧ σ.get 2 = some (.cells [.int .i64 0, .nils]) ∧ σ.get 3 = some (.cells (ints o))
structure Frm (N i : Nat) (tm : List AVal) : Prop where
  len : tm.length = 86
  t2 : XOpd.eval tm (.t 2) = .ptr 0 0
  t3 : XOpd.eval tm (.t 3) = .ptr 1 0
  t4 : XOpd.eval tm (.t 4) = .ptr 2 0
  t5 : XOpd.eval tm (.t 5) = .mlist 1 3 0 N
  t6 : XOpd.eval tm (.t 6) = .int .i64 i
def P115a (a b : List Int) (da db : AVal) (sa sb : Int) (N i : Nat) (r : List Int × Int) (tm' : List AVal) (σ' : Store) : Prop := Frm N i tm' ∧ XOpd.eval tm' (.t 7) = .int .i64 r.2 ∧ Mat a b r.1 sa sb da db σ'
theorem ints_setR (o : List Int) (p : Nat) (v : Int) : setR (ints o) p [.int .i64 v] = ints (o.set p v) := by simp [setR, ints]

theorem named2 {α β : Type} (Q : α → β → Prop) : ∃ P : α → β → Prop, (∀ a b, Q a b → P a b) ∧ ∀ a b, P a b → Q a b := ⟨Q, fun _ _ h => h, fun _ _ h => h⟩
theorem Ends.mono {r : Option RRes} {e : XExit} {Q P : List AVal → Store → Prop} (h : ∀ a b, Q a b → P a b) (k : Ends r e Q) : Ends r e P := by
  obtain ⟨tm, σ, h1, h2⟩ := k
  exact ⟨tm, σ, h1, h _ _ h2⟩
section
variable {X : FuncId → Option XFunc} (hX : WideCode X)
include hX

omit hX in
theorem loop115a {a b : List Int} {da db : AVal} (Da : DL a da) (Db : DL b db) {sa sb : Int} {N i : Nat} (oa : DOk a) (ob : DOk b) (hi : i < a.length) (hN : i + b.length < N) (hN2 : N ≤ 1000) : ∀ (m k : Nat), k + m = b.length → ∀ (o : List Int) (c : Int) (tm : List AVal) (σ : Store), 0 ≤ c → c < 1000000000 → DOk o → o.length = N → Frm N i tm → XOpd.eval tm (.t 7) = .int .i64 c → XOpd.eval tm (.t 8) = .int .i64 k → Mat a b o sa sb da db σ →
    Ends (Run X (.code (.loop xf125l0)) tm σ) (.exit 2) fun tm' σ' => Frm N i tm' ∧ XOpd.eval tm' (.t 7) = .int .i64 (inner o (i + k) (b.drop k) a[i] c).2 ∧ Mat a b (inner o (i + k) (b.drop k) a[i] c).1 sa sb da db σ' := by
  intro m
  induction m with
  | zero =>
    intro k hk o c tm σ c0 c1 ho hol hf h7 h8 hσ
    obtain ⟨hl, h2, h3, h4, h5, h6⟩ := id hf
    obtain ⟨g0, g1, g2, g3⟩ := id hσ
    have : k = b.length := by omega
    subst this
    have hd : b.drop b.length = [] := List.drop_eq_nil_of_le (Nat.le_refl _)
    have fin : ∀ t, Frm N i t → XOpd.eval t (.t 7) = .int .i64 c → (Frm N i t ∧ XOpd.eval t (.t 7) = .int .i64 (inner o (i + b.length) (b.drop b.length) a[i] c).2 ∧ Mat a b (inner o (i + b.length) (b.drop b.length) a[i] c).1 sa sb da db σ) := fun t k1 k2 => ⟨k1, by rw [hd]; exact k2, by rw [hd]; exact hσ⟩
    generalize hQ : (fun tm' σ' => Frm N i tm' ∧ XOpd.eval tm' (.t 7) = .int .i64 (inner o (i + b.length) (b.drop b.length) a[i] c).2 ∧ Mat a b (inner o (i + b.length) (b.drop b.length) a[i] c).1 sa sb da db σ') = Q
    have fin' : ∀ t, Frm N i t → XOpd.eval t (.t 7) = .int .i64 c → Q t σ := fun t k1 k2 => by rw [← hQ]; exact fin t k1 k2
    rw [Run_loop]
    simp [xf125l0, hl, h2, h3, h4, h5, h6, h7, h8, g0, g1, g2, g3, Da.xlen, Db.xlen]
    exact fin' _ ⟨by simp [hl], by simp [hl, h2], by simp [hl, h3], by simp [hl, h4], by simp [hl, h5], by simp [hl, h6]⟩ (by simp [hl, h7])
  | succ m ih =>
    intro k hk o c tm σ c0 c1 ho hol hf h7 h8 hσ
    obtain ⟨hl, h2, h3, h4, h5, h6⟩ := id hf
    obtain ⟨g0, g1, g2, g3⟩ := id hσ
    have hkb : k < b.length := by omega
    have hp : i + k < o.length := by omega
    have hd : b.drop k = b[k] :: b.drop (k + 1) := List.drop_eq_getElem_cons hkb
    have ea := oa.get hi; have eb := ob.get hkb; have dp := ho.get hp
    have eP : o.getD (i + k) 0 = o[i + k] := by rw [List.getD_eq_getElem?_getD, List.getElem?_eq_getElem hp]; rfl
    have p1 : 0 ≤ a[i] * b[k] := Int.mul_nonneg ea.1 eb.1
    have p2 : a[i] * b[k] ≤ 999999999 * 999999999 := Int.mul_le_mul (by omega) (by omega) eb.1 (by omega)
    have w1 : IntKind.i64.wrap ((i : Int) + k) = ((i + k : Nat) : Int) := by rw [wrap_i64] <;> omega
    have w2 : IntKind.i64.wrap ((k : Int) + 1) = ((k + 1 : Nat) : Int) := by rw [wrap_i64] <;> omega
    have w3 : IntKind.i64.wrap (a[i] * b[k]) = a[i] * b[k] := by rw [wrap_i64] <;> omega
    have w4 : IntKind.i64.wrap (o[i + k] + a[i] * b[k]) = o[i + k] + a[i] * b[k] := by rw [wrap_i64] <;> omega
    have w5 : IntKind.i64.wrap (o[i + k] + a[i] * b[k] + c) = o[i + k] + a[i] * b[k] + c := by rw [wrap_i64] <;> omega
    have q1 : (o[i + k] + a[i] * b[k] + c).tmod 1000000000 = (o[i + k] + a[i] * b[k] + c) % 1000000000 := Int.tmod_eq_emod_of_nonneg (by omega)
    have q2 : (o[i + k] + a[i] * b[k] + c).tdiv 1000000000 = (o[i + k] + a[i] * b[k] + c) / 1000000000 := Int.tdiv_eq_ediv_of_nonneg (by omega)
    have w6 : IntKind.i64.wrap ((o[i + k] + a[i] * b[k] + c) / 1000000000) = (o[i + k] + a[i] * b[k] + c) / 1000000000 := by rw [wrap_i64] <;> omega
    have hpN : i + k < N := by omega
    have hp1 : i + k + 1 ≤ o.length := by omega
    have ih' := fun tm σ => ih (k + 1) (by omega) (o.set (i + k) ((o[i + k] + a[i] * b[k] + c) % 1000000000)) ((o[i + k] + a[i] * b[k] + c) / 1000000000) tm σ (by omega) (by omega) (fun z hz => by
      rcases List.mem_or_eq_of_mem_set hz with hz | rfl
      · exact ho z hz
      · omega) (by simp; exact hol)
    rw [hd]
    simp only [inner, eP]
    rw [show i + (k + 1) = i + k + 1 from by omega] at ih'
    generalize (inner (o.set (i + k) ((o[i + k] + a[i] * b[k] + c) % 1000000000)) (i + k + 1) (b.drop (k + 1)) a[i] ((o[i + k] + a[i] * b[k] + c) / 1000000000)) = R at ih' ⊢
    generalize (fun tm' σ' => Frm N i tm' ∧ XOpd.eval tm' (.t 7) = .int .i64 R.2 ∧ Mat a b R.1 sa sb da db σ') = Q at ih' ⊢
    rcases Da with ⟨rfl, rfl⟩ | rfl
    · simp at hi
    rcases Db with ⟨rfl, rfl⟩ | rfl
    · simp at hkb
    rw [Run_loop]
    simp [xf125l0, hl, h2, h3, h4, h5, h6, h7, h8, g0, g1, g2, g3, hkb, hpN, hp, hp1, hi, w1, w2, w3, w4, w5, w6, q1, q2, only_get, merge_get', only_next, merge_next, put_next, upTo_self, merge_only, idx_add, touch, wrote, isIn, okRec, hits, capsOf, xcaps, ints_setR]
    refine ih' _ _ ⟨by simp [hl], by simp [hl, h2], by simp [hl, h3], by simp [hl, h4], by simp [hl, h5], by simp [hl, h6]⟩ (by simp [hl]) (by simp [hl]) ?_
    exact ⟨by rw [Store.get_put, Mem.put_ne _ (by decide)]; exact g0, by rw [Store.get_put, Mem.put_ne _ (by decide)]; exact g1, by rw [Store.get_put, Mem.put_ne _ (by decide)]; exact g2, by rw [Store.get_put, Mem.put_self]⟩

omit hX in
theorem loop115b {a b : List Int} {da db : AVal} (Da : DL a da) (Db : DL b db) {sa sb : Int} {N : Nat} (oa : DOk a) (ob : DOk b) (hN : a.length + b.length < N) (hN2 : N ≤ 1000) : ∀ (m i : Nat), i + m = a.length → ∀ (o : List Int) (tm : List AVal) (σ : Store), RowOk o N (i + b.length) → Frm N i tm → Mat a b o sa sb da db σ →
    Ends (Run X (.code (.loop xf125l1)) tm σ) (.exit 0) fun tm' σ' => Frm N a.length tm' ∧ Mat a b (rows b o i (a.drop i)) sa sb da db σ' := by
  intro m
  induction m with
  | zero =>
    intro i hk o tm σ ho hf hσ
    obtain ⟨hl, h2, h3, h4, h5, h6⟩ := id hf
    obtain ⟨g0, g1, g2, g3⟩ := id hσ
    have : i = a.length := by omega
    subst this
    have hd : a.drop a.length = [] := List.drop_eq_nil_of_le (Nat.le_refl _)
    have fin : ∀ t, Frm N a.length t → (Frm N a.length t ∧ Mat a b (rows b o a.length (a.drop a.length)) sa sb da db σ) := fun t k1 => ⟨k1, by rw [hd]; exact hσ⟩
    obtain ⟨Q, hq1, hq2⟩ := named2 (fun tm' σ' => Frm N a.length tm' ∧ Mat a b (rows b o a.length (a.drop a.length)) sa sb da db σ')
    refine Ends.mono hq2 ?_
    have fin' := fun t k1 => hq1 t σ (fin t k1)
    rw [Run_loop]
    simp [xf125l1, hl, h2, h3, h4, h5, h6, g0, g1, g2, g3, Da.xlen, Db.xlen]
    exact fin' _ ⟨by simp [hl], by simp [hl, h2], by simp [hl, h3], by simp [hl, h4], by simp [hl, h5], by simp [hl, h6]⟩
  | succ m ih =>
    intro i hk o tm σ ho hf hσ
    obtain ⟨hl, h2, h3, h4, h5, h6⟩ := id hf
    obtain ⟨g0, g1, g2, g3⟩ := id hσ
    have hi : i < a.length := by omega
    have hd : a.drop i = a[i] :: a.drop (i + 1) := List.drop_eq_getElem_cons hi
    have dx := oa.get hi
    have ih' := fun tm σ => ih (i + 1) (by omega) (row o i b a[i]) tm σ (ho.next ob dx.1 dx.2 (by omega))
    rw [hd]
    simp only [rows]
    obtain ⟨Q, hq1, hq2⟩ := named2 (fun tm' σ' => Frm N a.length tm' ∧ Mat a b (rows b (row o i b a[i]) (i + 1) (a.drop (i + 1))) sa sb da db σ')
    refine Ends.mono hq2 ?_
    rw [Run_loop]
    simp [xf125l1, hl, h2, h3, h4, h5, h6, g0, g1, g2, g3, hi, Da.xlen, Db.xlen]
    generalize hR : Run X (.code (.loop xf125l0)) _ _ = R
    have hE : Ends R (.exit 2) (P115a a b da db sa sb N i (inner o (i + 0) (b.drop 0) a[i] 0)) := by
      rw [← hR]
      refine loop115a Da Db oa ob hi (by omega) hN2 b.length 0 (by omega) o 0 _ _ (by omega) (by omega) ho.ok ho.len ⟨?_, ?_, ?_, ?_, ?_, ?_⟩ ?_ ?_ hσ <;> simp [hl, h2, h3, h4, h5, h6]
    clear hR
    obtain ⟨tm', σ', rfl, ⟨hl', h2', h3', h4', h5', h6'⟩, k2, j0, j1, j2, j3⟩ := hE
    simp only [Nat.add_zero, List.drop_zero] at k2 j3
    obtain ⟨b1, b2, b3⟩ := inner_ok b o i a[i] 0 ho.ok ob dx.1 dx.2 (by omega) (by omega)
    have hrow : (inner o i b a[i] 0).1.set (i + b.length) ((inner o i b a[i] 0).1.getD (i + b.length) 0 + (inner o i b a[i] 0).2) = row o i b a[i] := rfl
    have hlr : (inner o i b a[i] 0).1.length = N := by rw [inner_len, ho.len]
    generalize (inner o i b a[i] 0).1 = r at *
    generalize (inner o i b a[i] 0).2 = c at *
    have hp : i + b.length < r.length := by omega
    have eP : r.getD (i + b.length) 0 = r[i + b.length] := by rw [List.getD_eq_getElem?_getD, List.getElem?_eq_getElem hp]; rfl
    have dr := b1.get hp
    have w1 : IntKind.i64.wrap ((i : Int) + b.length) = ((i + b.length : Nat) : Int) := by rw [wrap_i64] <;> omega
    have w2 : IntKind.i64.wrap ((i : Int) + 1) = ((i + 1 : Nat) : Int) := by rw [wrap_i64] <;> omega
    have w3 : IntKind.i64.wrap (r[i + b.length] + c) = r[i + b.length] + c := by rw [wrap_i64] <;> omega
    have hpN : i + b.length < N := by omega
    have hp1 : i + b.length + 1 ≤ r.length := by omega
    rw [eP] at hrow
    simp [hl', h2', h3', h4', h5', h6', k2, j0, j1, j2, j3, Da.xlen, Db.xlen, hpN, hp, hp1, hi, w1, w2, w3, only_get, merge_get', only_next, merge_next, put_next, upTo_self, merge_only, idx_add, Store.get_put, put_get, touch, wrote, isIn, okRec, hits, capsOf, xcaps, ints_setR, hrow]
    refine Ends.mono hq1 (ih' _ _ ⟨by simp [hl'], by simp [hl', h2'], by simp [hl', h3'], by simp [hl', h4'], by simp [hl', h5'], by simp [hl', h6']⟩ ?_)
    unfold Mat
    simp [merge_get', Store.get_put, put_get, isIn, only_get, j0, j1, j2]

omit hX in
theorem rows_len (b : List Int) : ∀ (as o : List Int) (i : Nat), (rows b o i as).length = o.length
  | [], o, i => rfl
  | x :: as, o, i => by simp only [rows]; rw [rows_len b as, row_len]
omit hX in
theorem ab_eq (n : Int) : ab n = (n.natAbs : Int) := by unfold ab; split <;> omega
omit hX in
theorem ab_mul (a b : Int) : ab (a * b) = ab a * ab b := by rw [ab_eq, ab_eq, ab_eq, Int.natAbs_mul, Int.natCast_mul]
omit hX in
theorem sgn_eq (n : Int) : sgn n = n.sign := by
  rcases sgn_cases n with ⟨h, c, _⟩ | ⟨h, c, _⟩ | ⟨h, c, _⟩
  · rw [c, Int.sign_eq_neg_one_of_neg h]
  · rw [c, h]; rfl
  · rw [c, Int.sign_eq_one_of_pos h]
omit hX in
theorem sgn_mul (a b : Int) : sgn (a * b) = sgn a * sgn b := by rw [sgn_eq, sgn_eq, sgn_eq, Int.sign_mul]
omit hX in
theorem chunks_ints : ∀ (l : List Int) (n : Nat), n = l.length → chunks false 1 n (ints l) = some (ints l)
  | [], n, h => by subst h; rfl
  | x :: l, n, h => by
    subst h
    have := chunks_ints l l.length rfl
    simp only [ints] at this
    simp [chunks, ints, mkV, this]

def P115b (a b : List Int) (da db : AVal) (sa sb : Int) (N : Nat) (r : List Int) (tm' : List AVal) (σ' : Store) : Prop := Frm N a.length tm' ∧ Mat a b r sa sb da db σ'
theorem w115 {a b : Int} {va vb : AVal} (ha : IsW a va) (hb : IsW b vb) (sa : Small a) (sb : Small b) : ∃ w, IsW (a * b) w ∧ ∀ σ, Run X (.call 125) [va, vb] σ = some (.ret, [w], σ) := by
  refine call2E hX.h125 (by rw [ha.strip]; exact ha.free) (by rw [hb.strip]; exact hb.free) (by decide) fun tm hl h0 h1 => ?_
  rw [ha.strip] at h0
  rw [hb.strip] at h1
  replace hl : tm.length = 86 := hl
  have hA := IsW.told (n := a * b)
  unfold Small at sa sb
  obtain ⟨la, da, rfl, Da, oa, na, ea⟩ := id ha
  obtain ⟨lb, db, rfl, Db, ob, nb, eb⟩ := id hb
  have lla := len_le oa na (by rw [ea]; exact sa)
  have llb := len_le ob nb (by rw [eb]; exact sb)
  have w1 : IntKind.i64.wrap ((la.length : Int) + lb.length) = (la.length : Int) + lb.length := by rw [wrap_i64] <;> omega
  have w2 : IntKind.i64.wrap ((la.length : Int) + lb.length + 1) = ((la.length + lb.length + 1 : Nat) : Int) := by rw [wrap_i64] <;> omega
  have w3 : IntKind.i64.wrap (sgn a * sgn b) = sgn a * sgn b := by
    rcases sgn_cases a with ⟨_, c, _⟩ | ⟨_, c, _⟩ | ⟨_, c, _⟩ <;> rcases sgn_cases b with ⟨_, d, _⟩ | ⟨_, d, _⟩ | ⟨_, d, _⟩ <;> rw [c, d] <;> decide
  have hm : ∀ n, madeL [.int .i64 0] n = ints (List.replicate n 0) := fun n => by
    apply List.ext_getElem
    · simp [madeL, ints]
    · intro i h1 h2; simp [madeL, ints, Nat.mod_one]
  have hN1 : 8 * (la.length + lb.length + 1) ≤ 281474976710656 := by omega
  have hN2 : la.length + lb.length + 1 ≤ 9223372036854775807 := by omega
  have i1 : idx (.int .i64 ((la.length : Int) + lb.length + 1)) = some (la.length + lb.length + 1) := by
    have : ((la.length : Int) + lb.length + 1) = ((la.length + lb.length + 1 : Nat) : Int) := by omega
    rw [this]; rfl
  have hr := rows_eq lb la (List.replicate (la.length + lb.length + 1) 0) 0 (by simp)
  have hv := mulD_val la (List.replicate (la.length + lb.length + 1) 0) lb (by simp)
  have hok := (RowOk.zeros (la.length + lb.length + 1) (0 + lb.length)).rows ob la _ 0 oa (by omega)
  simp only [List.take_zero, List.nil_append, List.drop_zero] at hr
  rw [← hr, dval_zeros] at hv
  generalize hP : rows lb (List.replicate (la.length + lb.length + 1) 0) 0 la = pr at hv hok
  have hlen : pr.length ≤ 1000000 := by
    rw [← hP, rows_len]; simp; omega
  obtain ⟨u, q1, q2⟩ := w143 hX (v := .list 1 (ints pr) none) (l := pr) (.inr (by simp [AVal.strip, ints_strip])) hlen (sgn a * sgn b)
  have := hA _ (mkW (n := a * b) (s := sgn a * sgn b) q1 (trim_ok hok) (trim_norm _) (by rw [trim_val, hv, ea, eb, ab_mul]; omega) (fun _ => (sgn_mul a b).symm))
  generalize Told (IsW (a * b)) = Φ at this ⊢
  unfold GivesE
  simp [xf125, hl, h0, h1, w1, w2, hN1, hN2, i1, hm, Da.xlen, Db.xlen, Store.empty, Store.new, Store.put, Store.get, look, putL]
  generalize hR : Run X (.code (.loop xf125l1)) _ _ = R
  have hE : Ends R (.exit 0) (P115b la lb da db (sgn a) (sgn b) (la.length + lb.length + 1) pr) := by
    rw [← hR, ← hP]
    refine loop115b Da Db oa ob (by omega) (by omega) la.length 0 (by omega) _ _ _ (RowOk.zeros _ _) ⟨?_, ?_, ?_, ?_, ?_, ?_⟩ ⟨?_, ?_, ?_, ?_⟩ <;> simp [hl, Store.get, look]
  clear hR
  obtain ⟨tm', σ', rfl, ⟨hl', h2', h3', h4', h5', h6'⟩, j0, j1, j2, j3⟩ := hE
  have hch : chunks false 1 (la.length + lb.length + 1) (ints pr) = some (ints pr) := chunks_ints pr _ (by rw [← hP, rows_len]; simp)
  have hln : la.length + lb.length + 1 ≤ pr.length := by rw [← hP, rows_len]; simp
  simp [hl', h2', h3', h4', h5', h6', j0, j1, j2, j3, w3, hch, hln, ints_free, q2, q1.one, Store.get_put, put_get, setR]
  exact this
end
end Go.Proofs.YtbgjmclpahganaaGreat.Eng

/-
  WIDE numbers, H: quotients.
-/
namespace Go.Proofs.YtbgjmclpahganaaGreat.Eng
set_option linter.unusedSimpArgs false
set_option linter.unusedVariables false

theorem small_int {n : Int} (h1 : -1000000000000000000 < n) (h2 : n < 1000000000000000000) : Small n := by
  have := pw_le (k := 2) (m := 40) (by omega)
  have e : pw 2 = 1000000000000000000 := rfl
  unfold Small ab; split <;> omega
theorem DL.unstrip {l : List Int} {v : AVal} (h : DL l v.strip) (hm : v.isM = false) : (v = .nils ∧ l = []) ∨ ∃ t, v = .list 1 (ints l) t := by
  cases v with
  | nils => rcases h with ⟨_, h⟩ | h
            · exact .inl ⟨rfl, h⟩
            · simp [AVal.strip] at h
  | list s xs t =>
    rcases h with ⟨h, _⟩ | h
    · simp [AVal.strip] at h
    · simp only [AVal.strip, AVal.list.injEq, and_true] at h
      obtain ⟨rfl, h⟩ := h
      refine .inr ⟨t, ?_⟩
      have : ∀ (xs : List AVal) (l : List Int), stripL xs = ints l → xs = ints l := by
        intro xs
        induction xs with
        | nil => intro l h; simp [stripL] at h; exact h.symm
        | cons y xs ih =>
          intro l h
          cases l with
          | nil => simp [stripL, ints] at h
          | cons z l =>
            simp only [stripL, ints, List.map_cons, List.cons.injEq] at h
            have e1 := ih l h.2
            rw [e1]
            have : y = .int .i64 z := by cases y <;> simp [AVal.strip] at h <;> simp [h]
            rw [this]; rfl
      rw [this xs l h]
  | mlist => simp [AVal.isM] at hm
  | _ => exfalso; rcases h with ⟨h, _⟩ | h <;> simp [AVal.strip] at h
/-- One digit in front. -/
theorem app_front {σ : Store} {l : List Int} {v : AVal} {x : Int} (h : DL l v.strip) (hm : v.isM = false) (hl : l.length ≤ 1000000) :
    ∃ k σ', xappend (σ.new (.tok 3 1 1)) 3 1 8 (.list 1 [.int .i64 x] (some σ.next)) v = some (.list 1 (ints (x :: l)) k, σ') ∧ (∀ m, m < σ.next → σ'.get m = σ.get m) ∧ σ.next ≤ σ'.next := by
  have base : ∀ m, m < σ.next → (σ.new (.tok 3 1 1)).get m = σ.get m := fun m hm => by rw [Store.get_new, Mem.put_ne _ (by omega)]
  have hv := h.unstrip hm
  rcases hv with ⟨rfl, rfl⟩ | ⟨t, rfl⟩
  · exact ⟨some σ.next, _, by simp [xappend, AVal.isSlice, ints], base, by simp [Store.new]⟩
  · cases l with
    | nil => exact ⟨some σ.next, _, by simp [xappend, AVal.isSlice, ints, ones], base, by simp [Store.new]⟩
    | cons y l =>
      have hg : (σ.new (.tok 3 1 1)).get σ.next = some (.tok 3 1 1) := by rw [Store.get_new, Mem.put_self]
      simp only [List.length_cons] at hl
      have e1 : (1 + (l.length + 1)) * 8 ≤ 1000000000000 := by omega
      have e2 : 1 + (l.length + 1) ≤ 1000000000000 := by omega
      have ho := ints_ones (y :: l)
      simp only [ints, List.map_cons] at ho
      refine ⟨some σ.next, (σ.new (.tok 3 1 1)).put σ.next (.tok 3 1 (1 + (l.length + 1))), by simp [xappend, ints, ho, hg, e1, e2], fun m hm => ?_, by simp [Store.new, Store.put]⟩
      rw [Store.get_put, Mem.put_ne _ (by omega)]; exact base m hm
theorem DL.isM_strip {l : List Int} {v : AVal} (h : DL l v) : v.isM = false := h.isM
theorem IsW.digits {n : Int} {v : AVal} (h : IsW n v) : ∃ l d, v = .agg [.int .i64 (sgn n), d] ∧ DL l d ∧ DOk l ∧ DNorm l ∧ dval l = ab n := h
theorem div_bound {bb L Q : Int} (hb : 0 < bb) (h : Q = L / bb) : bb * Q ≤ L ∧ L < bb * (Q + 1) := by
  subst h
  have h1 := Int.mul_ediv_add_emod L bb
  have h2 := Int.emod_nonneg L (Int.ne_of_gt hb)
  have h3 := Int.emod_lt_of_pos L hb
  rw [Int.mul_add]; omega

structure Frh (la i : Nat) (tm : List AVal) : Prop where
  len : tm.length = 88
  t2 : XOpd.eval tm (.t 2) = .ptr 0 0
  t3 : XOpd.eval tm (.t 3) = .ptr 1 0
  t4 : XOpd.eval tm (.t 4) = .ptr 2 0
  t5 : XOpd.eval tm (.t 5) = .mlist 1 3 0 la
  t7 : XOpd.eval tm (.t 7) = .int .i64 ((i : Int) - 1)
def Mah (q : List Int) (sa sb : Int) (da db : AVal) (σ : Store) : Prop := σ.get 0 = some (.cells [.int .i64 sa, da]) ∧ σ.get 1 = some (.cells [.int .i64 sb, db]) ∧ σ.get 2 = some (.cells [.int .i64 0, .nils]) ∧ σ.get 3 = some (.cells (ints q)) ∧ 4 ≤ σ.next

section
variable {X : FuncId → Option XFunc} (hX : WideCode X)
include hX

/-- A product with a digit, as it is asked for. -/
theorem prod {bb : Int} {lb : List Int} {db : AVal} (Db : DL lb db) (ob : DOk lb) (nb : DNorm lb) (eb : dval lb = bb) (hb : 0 < bb) (hs : bb < pw 40) {m : Int} (m0 : 0 ≤ m) (m1 : m < 1000000000) :
    ∃ x y z lp dp, (∀ σ, Run X (.call 147) [.int .i64 1, db] σ = some (.ret, [x], σ)) ∧ (∀ σ, Run X (.call 126) [.int .i64 m] σ = some (.ret, [y], σ)) ∧ (∀ σ, Run X (.call 125) [x, y] σ = some (.ret, [.agg [z, dp]], σ)) ∧ DL lp dp ∧ DOk lp ∧ DNorm lp ∧ dval lp = bb * m ∧ lp.length ≤ 41 := by
  have e0 : ab bb = bb := by unfold ab; rw [if_neg (by omega)]
  obtain ⟨u, q1, q2⟩ := w143 hX (v := db) (l := lb) (by rw [Db.strip]; exact Db) (by have := len_le ob nb (by rw [eb]; exact hs); omega) 1
  have hx : IsW bb (.agg [.int .i64 (if trim lb = [] then 0 else 1), u]) := mkW q1 (trim_ok ob) (trim_norm _) (by rw [trim_val, eb, e0]) (fun _ => by rcases sgn_cases bb with h | h | h <;> omega)
  obtain ⟨y, hy, y2⟩ := w145 hX m (by omega) (by omega)
  obtain ⟨w, hw, w2⟩ := w115 hX hx hy (by unfold Small; rw [e0]; exact hs) (small_int (by omega) (by omega))
  obtain ⟨lp, dp, rfl, Dp, op, np, ep⟩ := hw
  have e1 : ab (bb * m) = bb * m := by rw [ab_mul, e0]; congr 1; unfold ab; rw [if_neg (by omega)]
  rw [e1] at ep
  refine ⟨_, y, _, lp, dp, q2, y2, w2, Dp, op, np, ep, len_le op np ?_⟩
  rw [ep]
  have : bb * m ≤ bb * 1000000000 := Int.mul_le_mul_of_nonneg_left (by omega) (by omega)
  have e : pw 41 = 1000000000 * pw 40 := rfl
  omega

def P146a (la i : Nat) (q : List Int) (sa sb : Int) (da db t6 : AVal) (Q : Int) (tm' : List AVal) (σ' : Store) : Prop := Frh la i tm' ∧ XOpd.eval tm' (.t 6) = t6 ∧ XOpd.eval tm' (.t 8) = .int .i64 Q ∧ Mah q sa sb da db σ'
theorem loop146a {la i : Nat} {lb q L : List Int} {sa sb bb : Int} {da db u : AVal} (Db : DL lb db) (ob : DOk lb) (nb : DNorm lb) (eb : dval lb = bb) (hb : 0 < bb) (hs : bb < pw 40) (Du : DL L u) (oL : DOk L) (nL : DNorm L) (lL : L.length ≤ 1000) {Q : Int} (hQ : Q = dval L / bb) :
    ∀ (k : Nat) (lo hi : Int), hi - lo ≤ k → 0 ≤ lo → hi ≤ 999999999 → lo ≤ Q → Q ≤ hi → ∀ (tm : List AVal) (σ : Store), Frh la i tm → XOpd.eval tm (.t 6) = u → XOpd.eval tm (.t 8) = .int .i64 lo → XOpd.eval tm (.t 9) = .int .i64 hi → Mah q sa sb da db σ →
      Ends (Run X (.code (.loop xf151l0)) tm σ) (.exit 2) (P146a la i q sa sb da db u Q) := by
  have stop : ∀ (lo : Int), lo = Q → ∀ (tm : List AVal) (σ : Store), Frh la i tm → XOpd.eval tm (.t 6) = u → XOpd.eval tm (.t 8) = .int .i64 lo → XOpd.eval tm (.t 9) = .int .i64 lo → Mah q sa sb da db σ →
      Ends (Run X (.code (.loop xf151l0)) tm σ) (.exit 2) (P146a la i q sa sb da db u Q) := by
    intro lo e tm σ hf h6 h8 h9 hσ
    obtain ⟨hl, h2, h3, h4, h5, h7⟩ := id hf
    have fin : ∀ t, Frh la i t → XOpd.eval t (.t 6) = u → XOpd.eval t (.t 8) = .int .i64 lo → P146a la i q sa sb da db u Q t σ := fun t k1 k2 k3 => ⟨k1, k2, by rw [k3, e], hσ⟩
    rw [Run_loop]
    simp [xf151l0, hl, h8, h9]
    exact fin _ ⟨by simp [hl], by simp [hl, h2], by simp [hl, h3], by simp [hl, h4], by simp [hl, h5], by simp [hl, h7]⟩ (by simp [hl, h6]) (by simp [hl, h8])
  intro k
  induction k with
  | zero =>
    intro lo hi hk lo0 hi1 hlo hhi tm σ hf h6 h8 h9 hσ
    exact stop lo (by omega) tm σ hf h6 h8 (by rw [h9]; congr 1; omega) hσ
  | succ k ih =>
    intro lo hi hk lo0 hi1 hlo hhi tm σ hf h6 h8 h9 hσ
    by_cases hlt : lo < hi
    · obtain ⟨hl, h2, h3, h4, h5, h7⟩ := id hf
      obtain ⟨g0, g1, g2, g3, g4⟩ := id hσ
      have w1 : IntKind.i64.wrap (lo + hi) = lo + hi := by rw [wrap_i64] <;> omega
      have w2 : IntKind.i64.wrap (lo + hi + 1) = lo + hi + 1 := by rw [wrap_i64] <;> omega
      have q1 : (lo + hi + 1).tdiv 2 = (lo + hi + 1) / 2 := Int.tdiv_eq_ediv_of_nonneg (by omega)
      have w3 : IntKind.i64.wrap ((lo + hi + 1) / 2) = (lo + hi + 1) / 2 := by rw [wrap_i64] <;> omega
      obtain ⟨hm0, hm1⟩ : lo < (lo + hi + 1) / 2 ∧ (lo + hi + 1) / 2 ≤ hi := by omega
      generalize (lo + hi + 1) / 2 = m at *
      have w4 : IntKind.i64.wrap (m - 1) = m - 1 := by rw [wrap_i64] <;> omega
      obtain ⟨x, y, z, lp, dp, c1, c2, c3, Dp, op, np, ep, lp1⟩ := prod hX Db ob nb eb hb hs (m := m) (by omega) (by omega)
      have c4 := w156 hX Dp Du (by omega) (by omega)
      rw [cmpD_spec op oL np nL, ep] at c4
      have hd := div_bound hb hQ
      have mono : m ≤ Q ↔ bb * m ≤ dval L := by
        constructor
        · intro h; have := Int.mul_le_mul_of_nonneg_left h (Int.le_of_lt hb); omega
        · intro h
          by_cases h' : m ≤ Q
          · exact h'
          · have : bb * (Q + 1) ≤ bb * m := Int.mul_le_mul_of_nonneg_left (by omega) (by omega)
            omega
      rw [Run_loop]
      by_cases hle : m ≤ Q
      · have hc : sgn (bb * m - dval L) ≤ 0 := by have := mono.1 hle; rcases sgn_cases (bb * m - dval L) with h | h | h <;> omega
        simp [xf151l0, hl, h2, h3, h6, h8, h9, hlt, w1, w2, w3, q1, g1, c1, c2, c3, c4, hc, w4]
        exact ih m hi (by omega) (by omega) hi1 hle hhi _ _ ⟨by simp [hl], by simp [hl, h2], by simp [hl, h3], by simp [hl, h4], by simp [hl, h5], by simp [hl, h7]⟩ (by simp [hl, h6]) (by simp [hl]) (by simp [hl, h9]) hσ
      · have hc : ¬ sgn (bb * m - dval L) ≤ 0 := by have : ¬ bb * m ≤ dval L := fun h => hle (mono.2 h); rcases sgn_cases (bb * m - dval L) with h | h | h <;> omega
        simp [xf151l0, hl, h2, h3, h6, h8, h9, hlt, w1, w2, w3, q1, g1, c1, c2, c3, c4, hc, w4]
        exact ih lo (m - 1) (by omega) lo0 (by omega) hlo (by omega) _ _ ⟨by simp [hl], by simp [hl, h2], by simp [hl, h3], by simp [hl, h4], by simp [hl, h5], by simp [hl, h7]⟩ (by simp [hl, h6]) (by simp [hl, h8]) (by simp [hl]) hσ
    · exact stop lo (by omega) tm σ hf h6 h8 (by rw [h9]; congr 1; omega) hσ
end
end Go.Proofs.YtbgjmclpahganaaGreat.Eng

/-
  WIDE numbers, I: quotients, whole.
-/
namespace Go.Proofs.YtbgjmclpahganaaGreat.Eng
set_option linter.unusedSimpArgs false
set_option linter.unusedVariables false

def P146 (a : List Int) (bb sa sb : Int) (da db : AVal) (tm' : List AVal) (σ' : Store) : Prop := Frh a.length 0 tm' ∧ ∃ q l, Mah q sa sb da db σ' ∧ q.length = a.length ∧ DOk q ∧ DL l (XOpd.eval tm' (.t 6)).strip ∧ (XOpd.eval tm' (.t 6)).isM = false ∧ DOk l ∧ DNorm l ∧ dval a = dval q * bb + dval l ∧ dval l < bb
section
variable {X : FuncId → Option XFunc} (hX : WideCode X)
include hX
theorem loop146b {a lb : List Int} {sa sb bb : Int} {da db : AVal} (Da : DL a da) (oa : DOk a) (la : a.length ≤ 40) (Db : DL lb db) (ob : DOk lb) (nb : DNorm lb) (eb : dval lb = bb) (hb : 0 < bb) (hs : bb < pw 40) :
    ∀ (i : Nat), i ≤ a.length → ∀ (q l : List Int) (tm : List AVal) (σ : Store), Frh a.length i tm → Mah q sa sb da db σ → q.length = a.length → DOk q → DL l (XOpd.eval tm (.t 6)).strip → (XOpd.eval tm (.t 6)).isM = false → DOk l → DNorm l → dval (a.drop i) = dval (q.drop i) * bb + dval l → dval l < bb →
      Ends (Run X (.code (.loop xf151l1)) tm σ) (.exit 0) (P146 a bb sa sb da db) := by
  intro i
  induction i with
  | zero =>
    intro hi q l tm σ hf hσ lq oq Dl ml ol nl he hlt
    obtain ⟨hl, h2, h3, h4, h5, h7⟩ := id hf
    have fin : ∀ t, Frh a.length 0 t → XOpd.eval t (.t 6) = XOpd.eval tm (.t 6) → P146 a bb sa sb da db t σ := fun t k1 k2 => ⟨k1, q, l, hσ, lq, oq, by rw [k2]; exact Dl, by rw [k2]; exact ml, ol, nl, by simpa using he, hlt⟩
    rw [Run_loop]
    simp [xf151l1, hl, h7]
    exact fin _ ⟨by simp [hl], by simp [hl, h2], by simp [hl, h3], by simp [hl, h4], by simp [hl, h5], by simp [hl, h7]⟩ (by simp [hl])
  | succ i ih =>
    intro hi q l tm σ hf hσ lq oq Dl ml ol nl he hlt
    obtain ⟨hl, h2, h3, h4, h5, h7⟩ := id hf
    obtain ⟨g0, g1, g2, g3, g4⟩ := id hσ
    have hia : i < a.length := by omega
    have hiq : i < q.length := by omega
    have da' := oa.get hia
    have h7' : XOpd.eval tm (.t 7) = .int .i64 (i : Int) := by rw [h7]; congr 1; omega
    have ll : l.length ≤ 40 := len_le ol nl (by omega)
    have pl := dval_nonneg ol
    obtain ⟨k, σ1, e1, e2, e3⟩ := app_front (σ := σ) (x := a[i]) Dl ml (by omega)
    obtain ⟨u, u1, u2⟩ := w153 hX (v := .list 1 (ints (a[i] :: l)) k) (l := a[i] :: l) (.inr (by simp [AVal.strip, ints_strip])) (by simp; omega)
    have hσ1 : Mah q sa sb da db σ1 := ⟨by rw [e2 0 (by omega)]; exact g0, by rw [e2 1 (by omega)]; exact g1, by rw [e2 2 (by omega)]; exact g2, by rw [e2 3 (by omega)]; exact g3, by omega⟩
    have hLv : dval (trim (a[i] :: l)) = a[i] + 1000000000 * dval l := by rw [trim_val]; rfl
    have okL : DOk (trim (a[i] :: l)) := trim_ok (DOk.mk da'.1 da'.2 ol)
    have noL := trim_norm (a[i] :: l)
    have lenL : (trim (a[i] :: l)).length ≤ 41 := by have := trim_length_le (a[i] :: l); simp at this; omega
    generalize trim (a[i] :: l) = L at *
    have pL := dval_nonneg okL
    obtain ⟨hd1, hd2⟩ := div_bound hb (Q := dval L / bb) rfl
    have hQ0 : 0 ≤ dval L / bb := Int.ediv_nonneg pL (Int.le_of_lt hb)
    have hQ1 : dval L / bb ≤ 999999999 := by
      have : dval L / bb < 1000000000 := Int.ediv_lt_of_lt_mul hb (by omega)
      omega
    have hA := fun tm σ => loop146a hX (la := a.length) (i := i + 1) (q := q) (sa := sa) (sb := sb) (da := da) Db ob nb eb hb hs u1 okL noL (by omega) (Q := dval L / bb) rfl 999999999 0 999999999 (by omega) (by omega) (by omega) hQ0 hQ1 tm σ
    obtain ⟨x, y, z, lp, dp, c1, c2, c3, Dp, op, np, ep, lp1⟩ := prod hX Db ob nb eb hb hs (m := dval L / bb) hQ0 (by omega)
    obtain ⟨v, ⟨l', Dl', ol', nl', ll', el'⟩, c4⟩ := w157 hX u1 Dp okL op (by omega) (by omega) (by omega)
    have hrem := Int.mul_ediv_add_emod (dval L) bb
    have ih' := fun tm σ => ih (by omega) (q.set i (dval L / bb)) l' tm σ
    have hset : (q.set i (dval L / bb)).drop i = (dval L / bb) :: q.drop (i + 1) := by
      rw [List.drop_set, if_neg (by omega), Nat.sub_self, List.drop_eq_getElem_cons hiq]; rfl
    have hval : dval (a.drop i) = dval ((q.set i (dval L / bb)).drop i) * bb + dval l' := by
      rw [hset, dval_drop hia, he, dval, el', ep, Int.add_mul, Int.mul_assoc, Int.mul_comm (dval L / bb) bb]; omega
    have hlt' : dval l' < bb := by rw [el', ep]; rw [Int.mul_add] at hd2; omega
    have hq' : DOk (q.set i (dval L / bb)) := fun z hz => by
      rcases List.mem_or_eq_of_mem_set hz with hz | rfl
      · exact oq z hz
      · omega
    have w1 : IntKind.i64.wrap ((i : Int) - 1) = (i : Int) - 1 := by rw [wrap_i64] <;> omega
    have hq1 : i + 1 ≤ q.length := by omega
    generalize dval L / bb = Q at *
    rcases Da with ⟨rfl, rfl⟩ | rfl
    · simp at hia
    rw [Run_loop]
    simp [xf151l1, hl, h2, h3, h4, h5, h7', g0, g1, g2, g3, hia, e1, u2, fillR, chunks, mkV, setR]
    generalize hR : Run X (.code (.loop xf151l0)) _ _ = R
    have hE : Ends R (.exit 2) (P146a a.length (i + 1) q sa sb (.list 1 (ints a) none) db u Q) := by
      rw [← hR]
      refine hA _ _ ⟨?_, ?_, ?_, ?_, ?_, ?_⟩ ?_ ?_ ?_ hσ1 <;> simp [hl, h2, h3, h4, h5, h7']
    clear hR
    obtain ⟨tm', σ', rfl, ⟨hl', h2', h3', h4', h5', h7''⟩, k6, k8, j0, j1, j2, j3, j4⟩ := hE
    have h7n : XOpd.eval tm' (.t 7) = .int .i64 (i : Int) := by rw [h7'']; congr 1; omega
    simp [hl', h2', h3', h4', h5', h7n, k6, k8, j0, j1, j2, j3, hia, hq1, w1, c1, c2, c3, c4, ints_setR, Store.get_put, put_get]
    refine ih' _ _ ⟨by simp [hl'], by simp [hl', h2'], by simp [hl', h3'], by simp [hl', h4'], by simp [hl', h5'], by simp [hl']⟩ ⟨?_, ?_, ?_, ?_, j4⟩ (by simp [lq]) hq' (by simp [hl', Dl'.strip]; exact Dl') (by simp [hl', Dl'.isM]) ol' nl' hval hlt' <;> simp [Store.get_put, put_get, j0, j1, j2]

theorem w146 {a b : Int} {va vb : AVal} (ha : IsW a va) (hb : IsW b vb) (sa : Small a) (sb : Small b) (hpos : 0 < b) : ∃ w, IsW (a / b) w ∧ ∀ σ, Run X (.call 151) [va, vb] σ = some (.ret, [w], σ) := by
  refine call2E hX.h151 (by rw [ha.strip]; exact ha.free) (by rw [hb.strip]; exact hb.free) (by decide) fun tm hl h0 h1 => ?_
  rw [ha.strip] at h0
  rw [hb.strip] at h1
  replace hl : tm.length = 88 := hl
  have hA := IsW.told (n := a / b)
  unfold Small at sa sb
  obtain ⟨la, da, rfl, Da, oa, na, ea⟩ := id ha
  obtain ⟨lb, db, rfl, Db, ob, nb, eb⟩ := id hb
  have lla := len_le oa na (by rw [ea]; exact sa)
  have eb' : ab b = b := by unfold ab; rw [if_neg (by omega)]
  rw [eb'] at eb sb
  by_cases hz : a = 0
  · subst hz
    rw [Int.zero_ediv] at hA ⊢
    have := hA _ isW0
    generalize Told (IsW 0) = Φ at this ⊢
    have s0 : sgn 0 = 0 := rfl
    unfold GivesE
    simp [xf151, hl, h0, h1, s0, fillR, Store.empty, Store.new, Store.put, Store.get, look, putL, setR]
    exact this
  have s0 : sgn a ≠ 0 := by rcases sgn_cases a with h | h | h <;> omega
  have hm : madeL [.int .i64 0] la.length = ints (List.replicate la.length 0) := by
    apply List.ext_getElem
    · simp [madeL, ints]
    · intro i h1 h2; simp [madeL, ints, Nat.mod_one]
  have hN1 : 8 * la.length ≤ 281474976710656 := by omega
  have hN2 : la.length ≤ 9223372036854775807 := by omega
  have w1 : IntKind.i64.wrap ((la.length : Int) - 1) = (la.length : Int) - 1 := by rw [wrap_i64] <;> omega
  obtain ⟨v1, v2, v3⟩ := w145 hX 1 (by omega) (by omega)
  have fin : ∀ q l : List Int, DOk q → DOk l → DNorm l → dval la = dval q * b + dval l → dval l < b → q.length ≤ 1000000 → ∃ u x, (∀ σ, Run X (.call 147) [.int .i64 (sgn a), .list 1 (ints q) none] σ = some (.ret, [.agg [.int .i64 u, x]], σ)) ∧ x.one = true ∧ x.strip = x ∧ x.free = true ∧
      ((0 < a ∨ l = []) → Told (IsW (a / b)) (.agg [.int .i64 u, x])) ∧ (a < 0 → l ≠ [] → ∃ y, Told (IsW (a / b)) y ∧ (∃ u' x', y = .agg [.int .i64 u', x'] ∧ x'.one = true) ∧ ∀ σ, Run X (.call 146) [.agg [.int .i64 u, x], v1] σ = some (.ret, [y], σ)) := by
    intro q l oq ol nl he hlt hlen
    have pl := dval_nonneg ol
    have pq := dval_nonneg oq
    obtain ⟨x, x1, x2⟩ := w143 hX (v := .list 1 (ints q) none) (l := q) (.inr (by simp [AVal.strip, ints_strip])) hlen (sgn a)
    have hw : IsW (sgn a * dval q) (.agg [.int .i64 (if trim q = [] then 0 else sgn a), x]) := mkW x1 (trim_ok oq) (trim_norm _) (by
      rw [trim_val, ab_mul]
      have : ab (sgn a) = 1 := by rcases sgn_cases a with ⟨_, h, _⟩ | ⟨_, h, _⟩ | ⟨_, h, _⟩ <;> first | (rw [h]; rfl) | omega
      rw [this]; unfold ab; rw [if_neg (by omega)]; omega) (fun h => by
      rw [sgn_mul]
      have hq0 : dval q ≠ 0 := by intro h0; rw [h0] at h; simp at h
      have : sgn (dval q) = 1 := by rcases sgn_cases (dval q) with h | h | h <;> omega
      rw [this]
      rcases sgn_cases a with ⟨_, h, _⟩ | ⟨_, h, _⟩ | ⟨_, h, _⟩ <;> rw [h] <;> rfl)
    refine ⟨_, x, x2, x1.one, x1.strip, x1.free, fun hc => hA _ ?_, fun hneg hl => ?_⟩
    · have : a / b = sgn a * dval q := by
        rcases sgn_cases a with ⟨h, c, d⟩ | ⟨h, _⟩ | ⟨h, c, d⟩
        · rcases hc with hc | rfl
          · omega
          · rw [c]
            refine ((Int.ediv_emod_unique (r := 0) hpos).2 ⟨?_, by omega, by omega⟩).1
            simp only [dval] at he
            rw [Int.neg_one_mul, Int.mul_neg, Int.mul_comm b]; omega
        · omega
        · rw [c]
          refine ((Int.ediv_emod_unique (r := dval l) hpos).2 ⟨?_, pl, hlt⟩).1
          rw [Int.one_mul, Int.mul_comm b]; omega
      rw [this]; exact hw
    · have hle : dval q * 1 ≤ dval q * b := Int.mul_le_mul_of_nonneg_left (by omega) pq
      have hsm : Small (sgn a * dval q) := by
        unfold Small; rw [ab_mul]
        have e1 : ab (sgn a) = 1 := by rcases sgn_cases a with ⟨_, h, _⟩ | ⟨_, h, _⟩ | ⟨_, h, _⟩ <;> first | (rw [h]; rfl) | omega
        have e2 : ab (dval q) = dval q := by unfold ab; rw [if_neg (by omega)]
        rw [e1, e2]; omega
      obtain ⟨y, y1, y2⟩ := w142 hX hw v2 hsm (small_int (by omega) (by omega))
      have hl0 : dval l ≠ 0 := fun h => hl (dval_zero ol nl h)
      have : a / b = sgn a * dval q - 1 := by
        rcases sgn_cases a with ⟨h, c, d⟩ | ⟨h, _⟩ | ⟨h, c, d⟩
        · rw [c]
          refine ((Int.ediv_emod_unique (r := b - dval l) hpos).2 ⟨?_, by omega, by omega⟩).1
          rw [Int.mul_sub, Int.neg_one_mul, Int.mul_neg, Int.mul_comm b (dval q)]; omega
        · omega
        · omega
      have hy := y1
      obtain ⟨ly, dy, rfl, Dy, _⟩ := id y1
      exact ⟨_, hA _ (by rw [this]; exact hy), ⟨_, _, rfl, Dy.one⟩, y2⟩
  generalize Told (IsW (a / b)) = Φ at fin ⊢
  unfold GivesE
  simp [xf151, hl, h0, h1, s0, w1, hN1, hN2, hm, Da.xlen, fillR, chunks, Store.empty, Store.new, Store.put, Store.get, look, putL]
  generalize hR : Run X (.code (.loop xf151l1)) _ _ = R
  have hE : Ends R (.exit 0) (P146 la b (sgn a) (sgn b) da db) := by
    rw [← hR]
    refine loop146b hX Da oa lla Db ob nb eb hpos sb la.length (Nat.le_refl _) (List.replicate la.length 0) [] _ _ ⟨?_, ?_, ?_, ?_, ?_, ?_⟩ ⟨?_, ?_, ?_, ?_, ?_⟩ (by simp) (fun x hx => by rw [List.mem_replicate] at hx; omega) (.inr ?_) ?_ DOk.nil (fun i hi => by simp at hi) (by simp [dval]) (by simpa [dval] using hpos) <;> simp [hl, Store.get, look, AVal.strip, stripL, ints, AVal.isM]
  clear hR
  obtain ⟨tm', σ', rfl, ⟨hl', h2', h3', h4', h5', h7'⟩, q, l, ⟨j0, j1, j2, j3, j4⟩, lq, oq, Dl, ml, ol, nl, he, hlt⟩ := hE
  obtain ⟨u, x, x1, x2, x3, x4, x5, x6⟩ := fin q l oq ol nl he hlt (by omega)
  have hch := chunks_ints q la.length lq.symm
  have hln : la.length ≤ q.length := by omega
  have new_next : ∀ (σ : Store) (o : NObj), (σ.new o).next = σ.next + 1 := fun _ _ => rfl
  have n0' : ¬ 0 = σ'.next := by omega
  have n2' : ¬ 2 = σ'.next := by omega
  have n0 : ¬ σ'.next = 0 := by omega
  have n2 : ¬ σ'.next = 2 := by omega
  have f1 := v2.strip
  have f2 := v2.free
  have xl : xlen (XOpd.eval tm' (.t 6)) = some (.int .i64 l.length) := by rcases Dl.unstrip ml with ⟨h, rfl⟩ | ⟨t, h⟩ <;> rw [h] <;> simp
  rcases sgn_cases a with ⟨c1, c2, c3⟩ | ⟨c1, c2, c3⟩ | ⟨c1, c2, c3⟩
  · by_cases hle : l = []
    · have := x5 (.inr hle)
      subst hle
      rw [c2] at x1 j0
      simp [hl', h2', h3', h4', h5', j0, j1, j2, j3, hch, hln, ints_free, c2, x1, x2, xl, n0, n2, put_next, Store.get_new, Store.get_put, put_get, setR]
      exact this
    · obtain ⟨y, y1, ⟨u', x', rfl, x7⟩, y3⟩ := x6 c1 hle
      rw [c2] at x1 j0
      have hlp : 0 < l.length := List.length_pos_iff.2 hle
      simp [hl', h2', h3', h4', h5', j0, j1, j2, j3, hch, hln, ints_free, c2, x1, x2, xl, n0, n2, n0', n2', hlp, put_next, new_next, x3, x4, f1, f2, x7, v3, y3, Store.get_new, Store.get_put, put_get, setR, only_get, merge_get', only_next, merge_next, upTo_self, merge_only, touch, wrote, isIn, okRec, hits, capsOf, xcaps, stripL, AVal.strip, freeL, AVal.free]
      exact y1
  · omega
  · have := x5 (.inl c1)
    rw [c2] at x1 j0
    simp [hl', h2', h3', h4', h5', j0, j1, j2, j3, hch, hln, ints_free, c2, x1, x2, xl, n0, n2, put_next, Store.get_new, Store.get_put, put_get, setR]
    exact this
end
end Go.Proofs.YtbgjmclpahganaaGreat.Eng

/-
  WIDE numbers, J: greatest common divisors, fractions.
-/
namespace Go.Proofs.YtbgjmclpahganaaGreat.Eng
set_option linter.unusedSimpArgs false
set_option linter.unusedVariables false

theorem upTo_one (n : Nat) : upTo n (n + 1) = [n] := by
  have : n + 1 - n = 1 := by omega
  simp [upTo, this]
theorem new_next (σ : Store) (o : NObj) : (σ.new o).next = σ.next + 1 := rfl
theorem small_le {a b : Int} (h : Small b) (h1 : -ab b ≤ a) (h2 : a ≤ ab b) : Small a := by
  unfold Small at *
  have := (sgn_cases a); unfold ab at *; repeat' split at * <;> omega
/-- Two cells of a number. -/
def CW (n : Int) (s d : AVal) : Prop := IsW n (.agg [s, d])
theorem CW.one {n : Int} {s d : AVal} (h : CW n s d) : s.one = true ∧ d.one = true := by
  obtain ⟨l, x, e, h, _⟩ := h
  simp at e; obtain ⟨rfl, rfl⟩ := e
  exact ⟨rfl, h.one⟩
theorem CW.strip {n : Int} {s d : AVal} (h : CW n s d) : s.strip = s ∧ d.strip = d := by
  obtain ⟨l, x, e, h, _⟩ := h
  simp at e; obtain ⟨rfl, rfl⟩ := e
  exact ⟨rfl, h.strip⟩
theorem CW.free {n : Int} {s d : AVal} (h : CW n s d) : s.free = true ∧ d.free = true := by
  obtain ⟨l, x, e, h, _⟩ := h
  simp at e; obtain ⟨rfl, rfl⟩ := e
  exact ⟨rfl, h.free⟩
theorem IsW.cells {n : Int} {v : AVal} (h : IsW n v) : ∃ s d, v = .agg [s, d] ∧ CW n s d := by
  have h0 := h
  obtain ⟨l, x, rfl, h, _⟩ := h
  exact ⟨_, _, rfl, h0⟩
def P155 (a b : Int) (tm' : List AVal) (σ' : Store) : Prop := tm'.length = 23 ∧ XOpd.eval tm' (.t 2) = .ptr 0 0 ∧ XOpd.eval tm' (.t 4) = .ptr 2 0 ∧ σ'.get 2 = some (.cells [.int .i64 0, .nils]) ∧ ∃ g s d, CW g s d ∧ σ'.get 0 = some (.cells [s, d]) ∧ 0 ≤ g ∧ g ∣ a ∧ g ∣ b ∧ (a ≠ 0 ∨ b ≠ 0 → 0 < g)
section
variable {X : FuncId → Option XFunc} (hX : WideCode X)
include hX
theorem loop155 : ∀ (k : Nat) (a b : Int), b < k → 0 ≤ a → 0 ≤ b → Small a → Small b → ∀ (sa da sb db : AVal) (tm : List AVal) (σ : Store), CW a sa da → CW b sb db → tm.length = 23 → XOpd.eval tm (.t 2) = .ptr 0 0 → XOpd.eval tm (.t 3) = .ptr 1 0 → XOpd.eval tm (.t 4) = .ptr 2 0 → σ.get 0 = some (.cells [sa, da]) → σ.get 1 = some (.cells [sb, db]) → σ.get 2 = some (.cells [.int .i64 0, .nils]) → 3 ≤ σ.next →
    Ends (Run X (.code (.loop xf153l0)) tm σ) (.exit 0) (P155 a b) := by
  intro k
  induction k with
  | zero => intro a b hk ha hb; omega
  | succ k ih =>
    intro a b hk ha hb sma smb sa da sb db tm σ wa wb hl h2 h3 h4 g0 g1 g2 g3
    have hs := w154 hX wb
    rw [Run_loop]
    by_cases hz : b = 0
    · subst hz
      have fin : ∀ t, t.length = 23 → XOpd.eval t (.t 2) = .ptr 0 0 → XOpd.eval t (.t 4) = .ptr 2 0 → P155 a 0 t σ := fun t k1 k2 k3 => ⟨k1, k2, k3, g2, a, sa, da, wa, g0, ha, Int.dvd_refl a, Int.dvd_zero a, fun h => by omega⟩
      have s0 : sgn 0 = 0 := rfl
      rw [s0] at hs
      simp [xf153l0, hl, h2, h3, h4, g0, g1, g2, hs]
      exact fin _ (by simp [hl]) (by simp [hl, h2]) (by simp [hl, h4])
    · have hbp : 0 < b := by omega
      have s1 : sgn b = 1 := by rcases sgn_cases b with h | h | h <;> omega
      rw [s1] at hs
      have m1 := Int.mul_ediv_add_emod a b
      have m2 := Int.emod_nonneg a (Int.ne_of_gt hbp)
      have m3 := Int.emod_lt_of_pos a hbp
      have q0 : 0 ≤ a / b := Int.ediv_nonneg ha hb
      have q1 : a / b * 1 ≤ a / b * b := Int.mul_le_mul_of_nonneg_left (by omega) q0
      rw [Int.mul_comm (a / b) b] at q1
      have ea : ab a = a := by unfold ab; rw [if_neg (by omega)]
      have eb : ab b = b := by unfold ab; rw [if_neg (by omega)]
      obtain ⟨x, x1, x2⟩ := w146 hX wa wb sma smb hbp
      obtain ⟨y, y1, y2⟩ := w115 hX x1 wb (small_le sma (by omega) (by omega)) smb
      have e1 : a / b * b = a - a % b := by rw [Int.mul_comm]; omega
      rw [e1] at y1
      obtain ⟨z, z1, z2⟩ := w142 hX wa y1 sma (small_le sma (by omega) (by omega))
      rw [show a - (a - a % b) = a % b from by omega] at z1
      obtain ⟨s, d, rfl, z3⟩ := z1.cells
      have sx := x1.strip; have fx := x1.free; have sy := y1.strip; have fy := y1.free
      have ih' := fun tm σ => ih b (a % b) (by omega) hb m2 smb (small_le smb (by omega) (by omega)) sb db s d tm σ wb z3
      have n0 : ¬ σ.next = 0 := by omega
      have n1 : ¬ σ.next = 1 := by omega
      have n2 : ¬ σ.next = 2 := by omega
      have n0' : ¬ 0 = σ.next := by omega
      have n1' : ¬ 1 = σ.next := by omega
      have n2' : ¬ 2 = σ.next := by omega
      have hmono : ∀ tm' σ', P155 b (a % b) tm' σ' → P155 a b tm' σ' := by
        rintro tm' σ' ⟨k1, k2, k3, k4, g, s, d, k5, k6, k7, k8, k9, k10⟩
        refine ⟨k1, k2, k3, k4, g, s, d, k5, k6, k7, ?_, k8, fun _ => k10 (.inl (by omega))⟩
        rw [← m1]; exact Int.dvd_add (Int.dvd_mul_of_dvd_left k8) k9
      refine Ends.mono hmono ?_
      simp [xf153l0, hl, h2, h3, h4, g0, g1, g2, hs, x2, y2, z2, sx, fx, sy, fy, z3.one, z3.strip, z3.free, wa.one, wa.strip, wa.free, wb.one, wb.strip, wb.free, n0, n1, n2, n0', n1', n2', put_next, new_next, Store.get_new, Store.get_put, put_get, setR, only_get, merge_get', only_next, merge_next, upTo_self, upTo_one, merge_only, touch, wrote, isIn, okRec, hits, capsOf, xcaps, stripL, AVal.strip, freeL, AVal.free]
      refine ih' _ _ ?_ ?_ ?_ ?_ ?_ ?_ ?_ ?_
      all_goals simp [hl, h2, h3, h4, g0, g1, g2, n0, n1, n2, n0', n1', n2', put_next, new_next, Store.get_new, Store.get_put, put_get, only_get, merge_get', only_next, merge_next, isIn]
      all_goals omega

theorem w155 {a b : Int} {va vb : AVal} (ha : IsW a va) (hb : IsW b vb) (sa : Small a) (sb : Small b) : ∃ g w, (0 ≤ g ∧ g ∣ a ∧ g ∣ b ∧ (a ≠ 0 ∨ b ≠ 0 → 0 < g)) ∧ IsW g w ∧ ∀ σ, Run X (.call 153) [va, vb] σ = some (.ret, [w], σ) := by
  have key : ∃ w, (∃ g, (0 ≤ g ∧ g ∣ a ∧ g ∣ b ∧ (a ≠ 0 ∨ b ≠ 0 → 0 < g)) ∧ IsW g w) ∧ ∀ σ, Run X (.call 153) [va, vb] σ = some (.ret, [w], σ) := by
    refine call2E (Φ := fun w => ∃ g, (0 ≤ g ∧ g ∣ a ∧ g ∣ b ∧ (a ≠ 0 ∨ b ≠ 0 → 0 < g)) ∧ IsW g w) hX.h153 (by rw [ha.strip]; exact ha.free) (by rw [hb.strip]; exact hb.free) (by decide) fun tm hl h0 h1 => ?_
    rw [ha.strip] at h0
    rw [hb.strip] at h1
    replace hl : tm.length = 23 := hl
    obtain ⟨x, x1, x2⟩ := w161 hX ha
    obtain ⟨y, y1, y2⟩ := w161 hX hb
    have hA : ∀ g s d, 0 ≤ g → g ∣ ab a → g ∣ ab b → (ab a ≠ 0 ∨ ab b ≠ 0 → 0 < g) → CW g s d → Told (fun w => ∃ g, (0 ≤ g ∧ g ∣ a ∧ g ∣ b ∧ (a ≠ 0 ∨ b ≠ 0 → 0 < g)) ∧ IsW g w) (.agg [s, d]) := fun g s d g0 g1 g2 g3 hw => by
      have hw' : IsW g (.agg [s, d]) := hw
      refine ⟨by rw [hw'.strip]; exact hw'.free, g, ⟨g0, ?_, ?_, fun h => g3 ?_⟩, by rw [hw'.strip]; exact hw'⟩
      · rw [ab_eq] at g1; exact Int.dvd_natAbs.1 g1
      · rw [ab_eq] at g2; exact Int.dvd_natAbs.1 g2
      · unfold ab; repeat' split <;> omega
    generalize Told (fun w => ∃ g, (0 ≤ g ∧ g ∣ a ∧ g ∣ b ∧ (a ≠ 0 ∨ b ≠ 0 → 0 < g)) ∧ IsW g w) = Φ at hA ⊢
    have na : 0 ≤ ab a := by unfold ab; split <;> omega
    have nb : 0 ≤ ab b := by unfold ab; split <;> omega
    have ma : Small (ab a) := small_le sa (by omega) (by omega)
    have mb : Small (ab b) := small_le sb (by omega) (by omega)
    obtain ⟨s1, d1, rfl, wa⟩ := ha.cells
    obtain ⟨s2, d2, rfl, wb⟩ := hb.cells
    obtain ⟨s3, d3, rfl, wx⟩ := x1.cells
    obtain ⟨s4, d4, rfl, wy⟩ := y1.cells
    unfold GivesE
    simp [xf153, hl, h0, h1, x2, y2, wa.one, wa.strip, wa.free, wb.one, wb.strip, wb.free, wx.one, wx.strip, wx.free, wy.one, wy.strip, wy.free, Store.empty, Store.new, Store.put, Store.get, look, putL, setR, Store.only, Store.merge, touch, wrote, upTo, isIn, okRec, hits, capsOf, xcaps, stripL, AVal.strip, freeL, AVal.free]
    generalize hR : Run X (.code (.loop xf153l0)) _ _ = R
    have hE : Ends R (.exit 0) (P155 (ab a) (ab b)) := by
      rw [← hR]
      refine loop155 hX ((ab b).toNat + 1) (ab a) (ab b) (by omega) na nb ma mb s3 d3 s4 d4 _ _ wx wy ?_ ?_ ?_ ?_ ?_ ?_ ?_ ?_ <;> simp [hl, Store.get, look]
    clear hR
    obtain ⟨tm', σ', rfl, k1, k2, k3, k4, g, s, d, k5, k6, k7, k8, k9, k10⟩ := hE
    have := hA g s d k7 k8 k9 k10 k5
    simp [k1, k2, k3, k4, k6, k5.one, setR, Store.get_put, put_get]
    exact this
  obtain ⟨w, ⟨g, h1, h2⟩, h3⟩ := key
  exact ⟨g, w, h1, h2, h3⟩

end
/-- A fraction of whole numbers, as it is kept. -/
def IsR (n d : Int) (v : AVal) : Prop := ∃ s1 d1 s2 d2, v = .agg [s1, d1, s2, d2] ∧ CW n s1 d1 ∧ CW d s2 d2 ∧ 0 < d
theorem IsR.strip {n d : Int} {v : AVal} (h : IsR n d v) : v.strip = v := by
  obtain ⟨s1, d1, s2, d2, rfl, h1, h2, _⟩ := h
  simp [AVal.strip, stripL, h1.strip, h2.strip]
theorem IsR.free {n d : Int} {v : AVal} (h : IsR n d v) : v.free = true := by
  obtain ⟨s1, d1, s2, d2, rfl, h1, h2, _⟩ := h
  simp [AVal.free, freeL, h1.free, h2.free]
/-- Equal fractions, of parts that are no greater. -/
def Red (n d n' d' : Int) : Prop := 0 < d' ∧ n' * d = n * d' ∧ ab n' ≤ ab n ∧ d' ≤ ab d
def IsQ (n d : Int) (v : AVal) : Prop := ∃ n' d', Red n d n' d' ∧ IsR n' d' v
theorem IsQ.told {n d : Int} : ∀ v, IsQ n d v → Told (IsQ n d) v := fun v ⟨n', d', h1, h2⟩ => ⟨by rw [h2.strip]; exact h2.free, n', d', h1, by rw [h2.strip]; exact h2⟩
section
variable {X : FuncId → Option XFunc} (hX : WideCode X)
include hX
theorem w144 {a b : Int} {va vb : AVal} (ha : IsW a va) (hb : IsW b vb) (sa : Small a) (sb : Small b) (hne : b ≠ 0) : ∃ w, IsQ a b w ∧ ∀ σ, Run X (.call 139) [va, vb] σ = some (.ret, [w], σ) := by
  refine call2E hX.h139 (by rw [ha.strip]; exact ha.free) (by rw [hb.strip]; exact hb.free) (by decide) fun tm hl h0 h1 => ?_
  rw [ha.strip] at h0
  rw [hb.strip] at h1
  replace hl : tm.length = 30 := hl
  have hA := IsQ.told (n := a) (d := b)
  have hs := w154 hX hb
  obtain ⟨o1, o2, o3⟩ := w145 hX 1 (by omega) (by omega)
  have fo1 := o2.free; have so1 := o2.strip
  obtain ⟨x, x1, x2⟩ := w147 hX ha
  obtain ⟨y, y1, y2⟩ := w147 hX hb
  obtain ⟨s1, d1, rfl, wa⟩ := ha.cells
  obtain ⟨s2, d2, rfl, wb⟩ := hb.cells
  obtain ⟨s3, d3, rfl, wx⟩ := x1.cells
  obtain ⟨s4, d4, rfl, wy⟩ := y1.cells
  -- what is done with a positive divisor
  have main : ∀ (n d : Int) (p q r t : AVal), CW n p q → CW d r t → Small n → Small d → 0 < d → ∃ g w, IsW g w ∧ 0 < g ∧ (∀ σ, Run X (.call 153) [.agg [p, q], .agg [r, t]] σ = some (.ret, [w], σ)) ∧ (∀ σ, Run X (.call 124) [w, o1] σ = some (.ret, [.int .i64 (sgn (g - 1))], σ)) ∧
      ∃ e f u v, (∀ σ, Run X (.call 151) [.agg [p, q], w] σ = some (.ret, [.agg [e, f]], σ)) ∧ (∀ σ, Run X (.call 151) [.agg [r, t], w] σ = some (.ret, [.agg [u, v]], σ)) ∧ ∃ n' d', CW n' e f ∧ CW d' u v ∧ 0 < d' ∧ n' * d = n * d' ∧ ab n' ≤ ab n ∧ d' ≤ d := by
    intro n d p q r t h1 h2 sn sd hd
    obtain ⟨g, w, ⟨g0, g1, g2, g3⟩, hw, hr⟩ := w155 hX h1 h2 sn sd
    have gp := g3 (.inr (by omega))
    have gle : g ≤ d := Int.le_of_dvd hd g2
    have ed : ab d = d := by unfold ab; rw [if_neg (by omega)]
    have sg : Small g := small_le sd (by omega) (by omega)
    obtain ⟨x, x1, x2⟩ := w146 hX h1 hw sn sg gp
    obtain ⟨y, y1, y2⟩ := w146 hX h2 hw sd sg gp
    obtain ⟨e, f, rfl, wx⟩ := x1.cells
    obtain ⟨u, v, rfl, wy⟩ := y1.cells
    have m1 : n / g * g = n := Int.ediv_mul_cancel g1
    have m2 : d / g * g = d := Int.ediv_mul_cancel g2
    refine ⟨g, w, hw, gp, hr, fun σ => w114 hX hw o2 sg (small_int (by omega) (by omega)) σ, e, f, u, v, x2, y2, n / g, d / g, wx, wy, ?_, ?_, ?_, ?_⟩
    · exact Int.ediv_pos_of_pos_of_dvd hd g0 g2
    · calc n / g * d = n / g * (d / g * g) := by rw [m2]
        _ = n / g * g * (d / g) := by rw [Int.mul_comm (d / g) g, Int.mul_assoc]
        _ = n * (d / g) := by rw [m1]
    · have h1 : ab (n / g) * ab g = ab n := by rw [← ab_mul, m1]
      have eg : ab g = g := by unfold ab; rw [if_neg (by omega)]
      rw [eg] at h1
      have h2 : 0 ≤ ab (n / g) := by unfold ab; split <;> omega
      have h3 : ab (n / g) * 1 ≤ ab (n / g) * g := Int.mul_le_mul_of_nonneg_left (by omega) h2
      omega
    · have h2 : 0 ≤ d / g := Int.ediv_nonneg (by omega) g0
      have h3 : d / g * 1 ≤ d / g * g := Int.mul_le_mul_of_nonneg_left (by omega) h2
      omega
  have toQ : ∀ (n d : Int), (n = a ∧ d = b ∨ n = -a ∧ d = -b) → 0 < d → ∀ (n' d' : Int) (e f u v : AVal), CW n' e f → CW d' u v → 0 < d' → n' * d = n * d' → ab n' ≤ ab n → d' ≤ d → IsQ a b (.agg [e, f, u, v]) := by
    intro n d hnd hd n' d' e f u v k1 k2 k3 k4 k5 k6
    refine ⟨n', d', ⟨k3, ?_, ?_, ?_⟩, e, f, u, v, rfl, k1, k2, k3⟩
    · rcases hnd with ⟨rfl, rfl⟩ | ⟨rfl, rfl⟩
      · exact k4
      · rw [Int.mul_neg, Int.neg_mul] at k4; omega
    · rcases hnd with ⟨rfl, rfl⟩ | ⟨rfl, rfl⟩
      · exact k5
      · have : ab (-a) = ab a := by unfold ab; repeat' split <;> omega
        omega
    · unfold ab; split <;> omega
  generalize hΦ : Told (IsQ a b) = Φ at hA ⊢
  have smn : ∀ z, Small z → Small (-z) := fun z h => by
    have : ab (-z) = ab z := by unfold ab; repeat' split <;> omega
    unfold Small at *; rw [this]; exact h
  rcases sgn_cases b with ⟨c1, c2, c3⟩ | ⟨c1, c2, c3⟩ | ⟨c1, c2, c3⟩
  · obtain ⟨g, w, hw, gp, r1, r2, e, f, u, v, r3, r4, n', d', k1, k2, k3, k4, k5, k6⟩ := main (-a) (-b) s3 d3 s4 d4 wx wy (smn a sa) (smn b sb) (by omega)
    have fw := hw.free; have sw := hw.strip
    obtain ⟨gs, gd, rfl, wg⟩ := hw.cells
    rw [c2] at hs
    by_cases h1' : g = 1
    · have hg : sgn (g - 1) = 0 := by rw [h1']; rfl
      rw [hg] at r2
      have := hA _ (toQ (-a) (-b) (.inr ⟨rfl, rfl⟩) (by omega) (-a) (-b) s3 d3 s4 d4 wx wy (by omega) rfl (Int.le_refl _) (Int.le_refl _))
      unfold GivesE
      simp [xf139, hl, h0, h1, hs, o3, x2, y2, r1, r2, fillR, wa.one, wa.strip, wa.free, wb.one, wb.strip, wb.free, wx.one, wx.strip, wx.free, wy.one, wy.strip, wy.free, wg.one, wg.strip, wg.free, fo1, so1, Store.empty, Store.new, Store.put, Store.get, look, putL, setR, Store.only, Store.merge, touch, wrote, upTo, isIn, okRec, hits, capsOf, xcaps, stripL, AVal.strip, freeL, AVal.free]
      exact this
    · have hg : ¬ sgn (g - 1) = 0 := by rcases sgn_cases (g - 1) with h | h | h <;> omega
      have := hA _ (toQ (-a) (-b) (.inr ⟨rfl, rfl⟩) (by omega) n' d' e f u v k1 k2 k3 k4 k5 k6)
      unfold GivesE
      simp [xf139, hl, h0, h1, hs, o3, x2, y2, r1, r2, r3, r4, hg, fillR, k1.one, k1.strip, k1.free, k2.one, k2.strip, k2.free, wa.one, wa.strip, wa.free, wb.one, wb.strip, wb.free, wx.one, wx.strip, wx.free, wy.one, wy.strip, wy.free, wg.one, wg.strip, wg.free, fo1, so1, Store.empty, Store.new, Store.put, Store.get, look, putL, setR, Store.only, Store.merge, touch, wrote, upTo, isIn, okRec, hits, capsOf, xcaps, stripL, AVal.strip, freeL, AVal.free]
      exact this
  · omega
  · obtain ⟨g, w, hw, gp, r1, r2, e, f, u, v, r3, r4, n', d', k1, k2, k3, k4, k5, k6⟩ := main a b s1 d1 s2 d2 wa wb sa sb (by omega)
    have fw := hw.free; have sw := hw.strip
    obtain ⟨gs, gd, rfl, wg⟩ := hw.cells
    rw [c2] at hs
    by_cases h1' : g = 1
    · have hg : sgn (g - 1) = 0 := by rw [h1']; rfl
      rw [hg] at r2
      have := hA _ (toQ a b (.inl ⟨rfl, rfl⟩) (by omega) a b s1 d1 s2 d2 wa wb (by omega) rfl (Int.le_refl _) (Int.le_refl _))
      unfold GivesE
      simp [xf139, hl, h0, h1, hs, o3, x2, y2, r1, r2, fillR, wa.one, wa.strip, wa.free, wb.one, wb.strip, wb.free, wx.one, wx.strip, wx.free, wy.one, wy.strip, wy.free, wg.one, wg.strip, wg.free, fo1, so1, Store.empty, Store.new, Store.put, Store.get, look, putL, setR, Store.only, Store.merge, touch, wrote, upTo, isIn, okRec, hits, capsOf, xcaps, stripL, AVal.strip, freeL, AVal.free]
      exact this
    · have hg : ¬ sgn (g - 1) = 0 := by rcases sgn_cases (g - 1) with h | h | h <;> omega
      have := hA _ (toQ a b (.inl ⟨rfl, rfl⟩) (by omega) n' d' e f u v k1 k2 k3 k4 k5 k6)
      unfold GivesE
      simp [xf139, hl, h0, h1, hs, o3, x2, y2, r1, r2, r3, r4, hg, fillR, k1.one, k1.strip, k1.free, k2.one, k2.strip, k2.free, wa.one, wa.strip, wa.free, wb.one, wb.strip, wb.free, wx.one, wx.strip, wx.free, wy.one, wy.strip, wy.free, wg.one, wg.strip, wg.free, fo1, so1, Store.empty, Store.new, Store.put, Store.get, look, putL, setR, Store.only, Store.merge, touch, wrote, upTo, isIn, okRec, hits, capsOf, xcaps, stripL, AVal.strip, freeL, AVal.free]
      exact this
end
end Go.Proofs.YtbgjmclpahganaaGreat.Eng

/-
  WIDE numbers, K: fractions, compared and computed.
-/
namespace Go.Proofs.YtbgjmclpahganaaGreat.Eng
set_option linter.unusedSimpArgs false
set_option linter.unusedVariables false

@[simp] theorem wrap_0 : IntKind.i64.wrap 0 = 0 := by decide
@[simp] theorem wrap_1 : IntKind.i64.wrap 1 = 1 := by decide
@[simp] theorem idx_one (k : IntKind) : idx (.int k 1) = some 1 := rfl
theorem pw_add (i : Nat) : ∀ j, pw (i + j) = pw i * pw j
  | 0 => by simp [pw]
  | j + 1 => by rw [show i + (j + 1) = (i + j) + 1 from rfl]; simp only [pw]; rw [pw_add i j, Int.mul_left_comm]
theorem ab_nonneg (n : Int) : 0 ≤ ab n := by unfold ab; split <;> omega
theorem ab_pos {n : Int} (h : 0 ≤ n) : ab n = n := by unfold ab; rw [if_neg (by omega)]
theorem ab_add (a b : Int) : ab (a + b) ≤ ab a + ab b := by unfold ab; repeat' split <;> omega
theorem ab_neg (a : Int) : ab (-a) = ab a := by unfold ab; repeat' split <;> omega
theorem size_mul {a b : Int} {i j : Nat} (h1 : ab a < pw i) (h2 : ab b < pw j) : ab (a * b) < pw (i + j) := by
  rw [ab_mul, pw_add]
  have h3 : ab a * ab b ≤ ab a * pw j := Int.mul_le_mul_of_nonneg_left (by omega) (ab_nonneg a)
  have h4 : ab a * pw j < pw i * pw j := Int.mul_lt_mul_of_pos_right h1 (pw_pos j)
  omega
theorem size_le {a : Int} {i j : Nat} (h : i ≤ j) (h1 : ab a < pw i) : ab a < pw j := by have := pw_le h; omega
theorem size_add {a b : Int} {i : Nat} (h1 : ab a < pw i) (h2 : ab b < pw i) : ab (a + b) < pw (i + 1) := by
  have := ab_add a b; have := pw_pos i; simp only [pw]; omega

section
variable {X : FuncId → Option XFunc} (hX : WideCode X)
include hX

theorem w117 {n : Int} {v : AVal} (h : IsW n v) (hs : ab n < pw 2) (σ : Store) : Run X (.call 136) [v] σ = some (.ret, [.tup [.int .i64 n, .bool true]], σ) := by
  refine call1 (v := .tup [.int .i64 n, .bool true]) hX.h136 (by rw [h.strip]; exact h.free) (by decide) (fun tm hl h0 => ?_) rfl σ
  rw [h.strip] at h0
  replace hl : tm.length = 30 := hl
  obtain ⟨l, d, rfl, D, ok, nm, e⟩ := h
  have hlen := len_le ok nm (by rw [e]; exact hs)
  have e2 : pw 2 = 1000000000000000000 := rfl
  rw [e2] at hs
  have hn : sgn n * ab n = n := by rcases sgn_cases n with ⟨_, a, b⟩ | ⟨h, a, b⟩ | ⟨_, a, b⟩ <;> rw [a, b] <;> omega
  have hw : IntKind.i64.wrap n = n := by rw [wrap_i64] <;> (rcases sgn_cases n with ⟨_, a, b⟩ | ⟨h, a, b⟩ | ⟨_, a, b⟩ <;> omega)
  unfold Gives
  match l, hlen with
  | [], _ =>
    simp [dval] at e
    have n0 : n = 0 := by rcases sgn_cases n with h | h | h <;> omega
    subst n0
    rcases D with ⟨rfl, _⟩ | rfl <;> simp [xf136, Run_loop, xf136l0, hl, h0, sgn, ints, Store.empty, Store.new, Store.put, Store.get, look, putL, xresult, xrets]
  | [x], _ =>
    have hx := ok.cons.1
    simp [dval] at e
    rcases D with ⟨rfl, h⟩ | rfl
    · cases h
    have w1 : IntKind.i64.wrap x = x := by rw [wrap_i64] <;> omega
    rw [← e] at hn
    simp [xf136, Run_loop, xf136l0, hl, h0, ints, w1, hn, hw, Store.empty, Store.new, Store.put, Store.get, look, putL, xresult, xrets]
  | [x, y], _ =>
    have hx := ok.cons
    have hy := hx.2.cons.1
    simp [dval] at e
    rcases D with ⟨rfl, h⟩ | rfl
    · cases h
    have w1 : IntKind.i64.wrap y = y := by rw [wrap_i64] <;> omega
    have w2 : IntKind.i64.wrap (y * 1000000000) = y * 1000000000 := by rw [wrap_i64] <;> omega
    have w3 : IntKind.i64.wrap (y * 1000000000 + x) = y * 1000000000 + x := by rw [wrap_i64] <;> omega
    rw [← e, show x + 1000000000 * y = y * 1000000000 + x from by omega] at hn
    simp [xf136, Run_loop, xf136l0, hl, h0, ints, w1, w2, w3, hn, hw, Store.empty, Store.new, Store.put, Store.get, look, putL, xresult, xrets]
  | _ :: _ :: _ :: _, h => simp at h

/-- Simple fractions: what stands as it is asked for. -/
theorem w116 {n d : Int} (n1 : -1000000000000000000 < n) (n2 : n < 1000000000000000000) (d1 : -1000000000000000000 < d) (d2 : d < 1000000000000000000) (hd : d ≠ 0) : ∃ w, IsQ n d w ∧ ∀ σ, Run X (.call 140) [.int .i64 n, .int .i64 d] σ = some (.ret, [w], σ) := by
  refine call2E hX.h140 rfl rfl (by decide) fun tm hl h0 h1 => ?_
  simp only [AVal.strip] at h0 h1
  replace hl : tm.length = 10 := hl
  obtain ⟨x, x1, x2⟩ := w145 hX n (by omega) (by omega)
  obtain ⟨y, y1, y2⟩ := w145 hX d (by omega) (by omega)
  obtain ⟨w, w1, w2⟩ := w144 hX x1 y1 (small_int n1 n2) (small_int d1 d2) hd
  have := IsQ.told _ w1
  obtain ⟨_, _, _, s1, t1, s2, t2, rfl, k1, k2, _⟩ := w1
  generalize Told (IsQ n d) = Φ at this ⊢
  unfold GivesE
  simp [xf140, hl, h0, h1, x2, y2, w2, k1.one, k2.one, Store.empty, Store.new, Store.put, Store.get, look, putL, setR]
  exact this
theorem w121 {n : Int} (n1 : -1000000000000000000 < n) (n2 : n < 1000000000000000000) : ∃ w, IsR n 1 w ∧ ∀ σ, Run X (.call 100) [.int .i64 n] σ = some (.ret, [w], σ) := by
  refine call1E hX.h100 rfl (by decide) fun tm hl h0 => ?_
  simp only [AVal.strip] at h0
  replace hl : tm.length = 7 := hl
  obtain ⟨x, x1, x2⟩ := w145 hX n (by omega) (by omega)
  obtain ⟨y, y1, y2⟩ := w145 hX 1 (by omega) (by omega)
  obtain ⟨s1, t1, rfl, k1⟩ := x1.cells
  obtain ⟨s2, t2, rfl, k2⟩ := y1.cells
  have hr : IsR n 1 (.agg [s1, t1, s2, t2]) := ⟨_, _, _, _, rfl, k1, k2, by omega⟩
  have : Told (IsR n 1) (.agg [s1, t1, s2, t2]) := ⟨by rw [hr.strip]; exact hr.free, by rw [hr.strip]; exact hr⟩
  generalize Told (IsR n 1) = Φ at this ⊢
  unfold GivesE
  simp [xf100, hl, h0, x2, y2, k1.one, k2.one, fillR, Store.empty, Store.new, Store.put, Store.get, look, putL, setR]
  exact this

theorem w73 {n1 d1 n2 d2 : Int} {u v : AVal} (hu : IsR n1 d1 u) (hv : IsR n2 d2 v) (a1 : ab n1 < pw 15) (a2 : ab d1 < pw 15) (b1 : ab n2 < pw 15) (b2 : ab d2 < pw 15) (σ : Store) :
    Run X (.call 99) [u, v] σ = some (.ret, [.int .i64 (sgn (n1 * d2 - n2 * d1))], σ) := by
  refine call2 (v := .int .i64 (sgn (n1 * d2 - n2 * d1))) hX.h99 (by rw [hu.strip]; exact hu.free) (by rw [hv.strip]; exact hv.free) (by decide) (fun tm hl h0 h1 => ?_) rfl σ
  rw [hu.strip] at h0
  rw [hv.strip] at h1
  replace hl : tm.length = 16 := hl
  obtain ⟨s1, t1, s2, t2, rfl, k1, k2, k3⟩ := hu
  obtain ⟨s3, t3, s4, t4, rfl, k4, k5, k6⟩ := hv
  obtain ⟨x, x1, x2⟩ := w115 hX k1 k5 (size_le (by omega) a1) (size_le (by omega) b2)
  obtain ⟨y, y1, y2⟩ := w115 hX k4 k2 (size_le (by omega) b1) (size_le (by omega) a2)
  have hc := w114 hX x1 y1 (size_le (by omega) (size_mul a1 b2)) (size_le (by omega) (size_mul b1 a2))
  have fx := x1.free; have sx := x1.strip; have fy := y1.free; have sy := y1.strip
  unfold Gives
  simp [xf99, hl, h0, h1, x2, y2, hc, fx, sx, fy, sy, k1.one, k1.strip, k1.free, k2.one, k2.strip, k2.free, k4.one, k4.strip, k4.free, k5.one, k5.strip, k5.free, Store.empty, Store.new, Store.put, Store.get, look, putL, setR, Store.only, Store.merge, touch, wrote, upTo, isIn, okRec, hits, capsOf, xcaps, stripL, AVal.strip, freeL, AVal.free]

theorem w120 {n1 d1 n2 d2 : Int} {u v : AVal} (hu : IsR n1 d1 u) (hv : IsR n2 d2 v) (a1 : ab n1 < pw 15) (a2 : ab d1 < pw 15) (b1 : ab n2 < pw 15) (b2 : ab d2 < pw 15) :
    ∃ w, IsQ (n1 * d2 + n2 * d1) (d1 * d2) w ∧ ∀ σ, Run X (.call 123) [u, v] σ = some (.ret, [w], σ) := by
  refine call2E hX.h123 (by rw [hu.strip]; exact hu.free) (by rw [hv.strip]; exact hv.free) (by decide) fun tm hl h0 h1 => ?_
  rw [hu.strip] at h0
  rw [hv.strip] at h1
  replace hl : tm.length = 22 := hl
  obtain ⟨s1, t1, s2, t2, rfl, k1, k2, k3⟩ := hu
  obtain ⟨s3, t3, s4, t4, rfl, k4, k5, k6⟩ := hv
  obtain ⟨x, x1, x2⟩ := w115 hX k1 k5 (size_le (by omega) a1) (size_le (by omega) b2)
  obtain ⟨y, y1, y2⟩ := w115 hX k4 k2 (size_le (by omega) b1) (size_le (by omega) a2)
  obtain ⟨z, z1, z2⟩ := w148 hX x1 y1 (size_le (by omega) (size_mul a1 b2)) (size_le (by omega) (size_mul b1 a2))
  obtain ⟨p, p1, p2⟩ := w115 hX k2 k5 (size_le (by omega) a2) (size_le (by omega) b2)
  obtain ⟨w, w1, w2⟩ := w144 hX z1 p1 (size_le (i := 31) (by omega) (size_add (size_mul a1 b2) (size_mul b1 a2))) (size_le (by omega) (size_mul a2 b2)) (Int.ne_of_gt (Int.mul_pos k3 k6))
  have := IsQ.told _ w1
  obtain ⟨_, _, _, e1, f1, e2, f2, rfl, j1, j2, _⟩ := w1
  generalize Told (IsQ (n1 * d2 + n2 * d1) (d1 * d2)) = Φ at this ⊢
  have fx := x1.free; have sx := x1.strip; have fy := y1.free; have sy := y1.strip; have fz := z1.free; have sz := z1.strip; have fp := p1.free; have sp := p1.strip
  unfold GivesE
  simp [xf123, hl, h0, h1, x2, y2, z2, p2, w2, fx, sx, fy, sy, fz, sz, fp, sp, j1.one, j2.one, k1.one, k1.strip, k1.free, k2.one, k2.strip, k2.free, k4.one, k4.strip, k4.free, k5.one, k5.strip, k5.free, Store.empty, Store.new, Store.put, Store.get, look, putL, setR, Store.only, Store.merge, touch, wrote, upTo, isIn, okRec, hits, capsOf, xcaps, stripL, AVal.strip, freeL, AVal.free]
  exact this

theorem w122 {n1 d1 n2 d2 : Int} {u v : AVal} (hu : IsR n1 d1 u) (hv : IsR n2 d2 v) (a1 : ab n1 < pw 15) (a2 : ab d1 < pw 15) (b1 : ab n2 < pw 15) (b2 : ab d2 < pw 15) :
    ∃ w, IsQ (n1 * n2) (d1 * d2) w ∧ ∀ σ, Run X (.call 118) [u, v] σ = some (.ret, [w], σ) := by
  refine call2E hX.h118 (by rw [hu.strip]; exact hu.free) (by rw [hv.strip]; exact hv.free) (by decide) fun tm hl h0 h1 => ?_
  rw [hu.strip] at h0
  rw [hv.strip] at h1
  replace hl : tm.length = 16 := hl
  obtain ⟨s1, t1, s2, t2, rfl, k1, k2, k3⟩ := hu
  obtain ⟨s3, t3, s4, t4, rfl, k4, k5, k6⟩ := hv
  obtain ⟨x, x1, x2⟩ := w115 hX k1 k4 (size_le (by omega) a1) (size_le (by omega) b1)
  obtain ⟨p, p1, p2⟩ := w115 hX k2 k5 (size_le (by omega) a2) (size_le (by omega) b2)
  obtain ⟨w, w1, w2⟩ := w144 hX x1 p1 (size_le (by omega) (size_mul a1 b1)) (size_le (by omega) (size_mul a2 b2)) (Int.ne_of_gt (Int.mul_pos k3 k6))
  have := IsQ.told _ w1
  obtain ⟨_, _, _, e1, f1, e2, f2, rfl, j1, j2, _⟩ := w1
  generalize Told (IsQ (n1 * n2) (d1 * d2)) = Φ at this ⊢
  have fx := x1.free; have sx := x1.strip; have fp := p1.free; have sp := p1.strip
  unfold GivesE
  simp [xf118, hl, h0, h1, x2, p2, w2, fx, sx, fp, sp, j1.one, j2.one, k1.one, k1.strip, k1.free, k2.one, k2.strip, k2.free, k4.one, k4.strip, k4.free, k5.one, k5.strip, k5.free, Store.empty, Store.new, Store.put, Store.get, look, putL, setR, Store.only, Store.merge, touch, wrote, upTo, isIn, okRec, hits, capsOf, xcaps, stripL, AVal.strip, freeL, AVal.free]
  exact this

theorem w123 {n1 d1 n2 d2 : Int} {u v : AVal} (hu : IsR n1 d1 u) (hv : IsR n2 d2 v) (hn : n2 ≠ 0) (a1 : ab n1 < pw 15) (a2 : ab d1 < pw 15) (b1 : ab n2 < pw 15) (b2 : ab d2 < pw 15) :
    ∃ w, IsQ (n1 * d2) (d1 * n2) w ∧ ∀ σ, Run X (.call 117) [u, v] σ = some (.ret, [w], σ) := by
  refine call2E hX.h117 (by rw [hu.strip]; exact hu.free) (by rw [hv.strip]; exact hv.free) (by decide) fun tm hl h0 h1 => ?_
  rw [hu.strip] at h0
  rw [hv.strip] at h1
  replace hl : tm.length = 16 := hl
  obtain ⟨s1, t1, s2, t2, rfl, k1, k2, k3⟩ := hu
  obtain ⟨s3, t3, s4, t4, rfl, k4, k5, k6⟩ := hv
  obtain ⟨x, x1, x2⟩ := w115 hX k1 k5 (size_le (by omega) a1) (size_le (by omega) b2)
  obtain ⟨p, p1, p2⟩ := w115 hX k2 k4 (size_le (by omega) a2) (size_le (by omega) b1)
  obtain ⟨w, w1, w2⟩ := w144 hX x1 p1 (size_le (by omega) (size_mul a1 b2)) (size_le (by omega) (size_mul a2 b1)) (Int.mul_ne_zero (Int.ne_of_gt k3) hn)
  have := IsQ.told _ w1
  obtain ⟨_, _, _, e1, f1, e2, f2, rfl, j1, j2, _⟩ := w1
  generalize Told (IsQ (n1 * d2) (d1 * n2)) = Φ at this ⊢
  have fx := x1.free; have sx := x1.strip; have fp := p1.free; have sp := p1.strip
  unfold GivesE
  simp [xf117, hl, h0, h1, x2, p2, w2, fx, sx, fp, sp, j1.one, j2.one, k1.one, k1.strip, k1.free, k2.one, k2.strip, k2.free, k4.one, k4.strip, k4.free, k5.one, k5.strip, k5.free, Store.empty, Store.new, Store.put, Store.get, look, putL, setR, Store.only, Store.merge, touch, wrote, upTo, isIn, okRec, hits, capsOf, xcaps, stripL, AVal.strip, freeL, AVal.free]
  exact this

theorem w118 {n d : Int} {u : AVal} (hu : IsR n d u) (a1 : ab n < pw 15) (a2 : ab d < pw 15) : ∃ w, IsW (n / d) w ∧ ∀ σ, Run X (.call 137) [u] σ = some (.ret, [w], σ) := by
  refine call1E hX.h137 (by rw [hu.strip]; exact hu.free) (by decide) fun tm hl h0 => ?_
  rw [hu.strip] at h0
  replace hl : tm.length = 8 := hl
  obtain ⟨s1, t1, s2, t2, rfl, k1, k2, k3⟩ := hu
  obtain ⟨x, x1, x2⟩ := w146 hX k1 k2 (size_le (by omega) a1) (size_le (by omega) a2) k3
  have := IsW.told _ x1
  obtain ⟨e, f, rfl, j⟩ := x1.cells
  generalize Told (IsW (n / d)) = Φ at this ⊢
  unfold GivesE
  simp [xf137, hl, h0, x2, j.one, k1.one, k2.one, Store.empty, Store.new, Store.put, Store.get, look, putL, setR]
  exact this
theorem w119 {n d : Int} {u : AVal} (hu : IsR n d u) (a1 : ab n < pw 15) (a2 : ab d < pw 15) : ∃ w, IsW (-((-n) / d)) w ∧ ∀ σ, Run X (.call 138) [u] σ = some (.ret, [w], σ) := by
  refine call1E hX.h138 (by rw [hu.strip]; exact hu.free) (by decide) fun tm hl h0 => ?_
  rw [hu.strip] at h0
  replace hl : tm.length = 10 := hl
  obtain ⟨s1, t1, s2, t2, rfl, k1, k2, k3⟩ := hu
  obtain ⟨y, y1, y2⟩ := w147 hX k1
  obtain ⟨x, x1, x2⟩ := w146 hX y1 k2 (size_le (i := 15) (by omega) (by rw [ab_neg]; exact a1)) (size_le (by omega) a2) k3
  obtain ⟨z, z1, z2⟩ := w147 hX x1
  have := IsW.told _ z1
  have fx := x1.free; have sx := x1.strip; have fy := y1.free; have sy := y1.strip; have fz := z1.free; have sz := z1.strip
  obtain ⟨e, f, rfl, j⟩ := z1.cells
  generalize Told (IsW (-((-n) / d))) = Φ at this ⊢
  unfold GivesE
  simp [xf138, hl, h0, x2, y2, z2, fx, sx, fy, sy, fz, sz, j.one, k1.one, k1.strip, k1.free, k2.one, k2.strip, k2.free, Store.empty, Store.new, Store.put, Store.get, look, putL, setR, Store.only, Store.merge, touch, wrote, upTo, isIn, okRec, hits, capsOf, xcaps, stripL, AVal.strip, freeL, AVal.free]
  exact this
end
end Go.Proofs.YtbgjmclpahganaaGreat.Eng
