/-
  Votes: the signals that are in at least two of three sets, bit by bit.
-/
import Derived.Test.YtjbegiaceekgcaaEngLoop
import Derived.Test.YtjbegiaceekgcaaEng6
import Derived.Test.YtjbegiaceekgcaaEng1
import Derived.Test.YtjbegiaceekgcaaEng4
import Derived.Test.YtjbegiaceekgcaaCode1
import Derived.Test.YtjbegiaceekgcaaEngX
import Derived.Test.YtjbegiaceekgcaaProg
import Derived.KernelRfl
import Derived.Test.YtjbegiaceekgcaaEng2
import Derived.Test.YtjbegiaceekgcaaRows
import Derived.Test.YtjbegiaceekgcaaChecked
import Derived.Test.YtjbegiaceekgcaaEngZ
import Derived.ProofKit
import Derived.JoinedOf
namespace Go.Proofs.Ytjbegiaceekgcaa.Eng
def voteN (a b c : Nat) : Nat := a &&& b ||| a &&& c ||| b &&& c
def bitN (a k : Nat) : Nat := (a >>> k) &&& 1
def cnt3 (a b c k : Nat) : Nat := bitN a k + bitN b k + bitN c k
def stepV (a b c k out : Nat) : Nat := if 2 ≤ cnt3 a b c k then out + 2 ^ k else out
def refV (a b c : Nat) : Nat := stepV a b c 4 (stepV a b c 3 (stepV a b c 2 (stepV a b c 1 (stepV a b c 0 0))))
theorem vote_dec : ∀ a, a < 32 → ∀ b, b < 32 → ∀ c, c < 32 → voteN a b c = refV a b c := by decide +kernel
theorem vote_ab (t c : Nat) : voteN t t c = t := by
  unfold voteN
  apply Nat.eq_of_testBit_eq
  intro i
  simp only [Nat.testBit_or, Nat.testBit_and]
  cases t.testBit i <;> cases c.testBit i <;> rfl
theorem vote_ac (t b : Nat) : voteN t b t = t := by
  unfold voteN
  apply Nat.eq_of_testBit_eq
  intro i
  simp only [Nat.testBit_or, Nat.testBit_and]
  cases t.testBit i <;> cases b.testBit i <;> rfl
theorem vote_bc (t a : Nat) : voteN a t t = t := by
  unfold voteN
  apply Nat.eq_of_testBit_eq
  intro i
  simp only [Nat.testBit_or, Nat.testBit_and]
  cases t.testBit i <;> cases a.testBit i <;> rfl
/-- Whole numbers that are not below 0, and fit. -/
theorem wrap_nat {n : Nat} (h : n < 2 ^ 63) : IntKind.wrap .i64 (n : Int) = n := by
  have : (2:Nat)^63 = 9223372036854775808 := by decide
  simp [IntKind.wrap, IntKind.bits, IntKind.signed]
  omega
theorem ofInt_nat (n : Nat) : BitVec.ofInt 64 (n : Int) = BitVec.ofNat 64 n := by
  apply BitVec.eq_of_toNat_eq
  simp [BitVec.toNat_ofNat]
theorem and_nat {a b : Nat} (ha : a < 2 ^ 63) (hb : b < 2 ^ 63) : xbits .and .i64 (a : Int) (b : Int) = some ((a &&& b : Nat) : Int) := by
  have h : (a &&& b) < 2 ^ 63 := Nat.and_lt_two_pow _ hb
  have e : (BitVec.ofInt 64 (a : Int) &&& BitVec.ofInt 64 (b : Int)).toNat = a &&& b := by
    rw [ofInt_nat, ofInt_nat, BitVec.toNat_and, BitVec.toNat_ofNat, BitVec.toNat_ofNat, Nat.mod_eq_of_lt (by omega), Nat.mod_eq_of_lt (by omega)]
  show some _ = _
  rw [show IntKind.bits .i64 = 64 from rfl, e, wrap_nat h]
theorem or_nat {a b : Nat} (ha : a < 2 ^ 63) (hb : b < 2 ^ 63) : xbits .or .i64 (a : Int) (b : Int) = some ((a ||| b : Nat) : Int) := by
  have h : (a ||| b) < 2 ^ 63 := Nat.or_lt_two_pow ha hb
  have e : (BitVec.ofInt 64 (a : Int) ||| BitVec.ofInt 64 (b : Int)).toNat = a ||| b := by
    rw [ofInt_nat, ofInt_nat, BitVec.toNat_or, BitVec.toNat_ofNat, BitVec.toNat_ofNat, Nat.mod_eq_of_lt (by omega), Nat.mod_eq_of_lt (by omega)]
  show some _ = _
  rw [show IntKind.bits .i64 = 64 from rfl, e, wrap_nat h]
theorem shr_nat (a k : Nat) : (a : Int).fdiv (2 ^ k) = ((a >>> k : Nat) : Int) := by
  rw [Nat.shiftRight_eq_div_pow, Int.fdiv_eq_ediv_of_nonneg _ (Int.le_of_lt (Int.pow_pos (by omega)))]
  simp
theorem and1_nat {a : Nat} (ha : a < 2 ^ 63) : xbits .and .i64 (a : Int) 1 = some ((a &&& 1 : Nat) : Int) := and_nat ha (b := 1) (by decide)
def win (a b c : Int) : Bool := decide (b ≤ a) && decide (a ≤ c)
theorem win_iff {a b c : Int} : win a b c = true ↔ b ≤ a ∧ a ≤ c := by simp [win]
def firstNZ : List Int → Int
  | [] => 0
  | e :: l => if e = 0 then firstNZ l else e
/-- The error of a set of any plan. -/
def chk (a : Int) : Int := if win a 0 31 then 0 else 2
theorem wrp {n : Int} (h1 : -1000000000000000000 ≤ n) (h2 : n ≤ 1000000000000000000) : IntKind.i64.wrap n = n := by rw [wrap_i64] <;> omega
theorem bit_le (a k : Nat) : bitN a k ≤ 1 := Nat.and_le_right
theorem chk_ok {a : Int} (h : chk a = 0) : ∃ n : Nat, a = n ∧ n < 32 := by
  unfold chk at h
  by_cases c : win a 0 31 = true
  · rw [win_iff] at c
    exact ⟨a.toNat, by omega, by omega⟩
  · simp [c] at h
theorem chk_of {n : Nat} (h : n < 32) : chk (n : Int) = 0 := by
  have : win (n : Int) 0 31 = true := by rw [win_iff]; omega
  simp [chk, this]
def e3 (a b c : Int) : Int := firstNZ [chk a, chk b, chk c]
theorem e3_ok {a b c : Int} (h : e3 a b c = 0) : chk a = 0 ∧ chk b = 0 ∧ chk c = 0 := by
  unfold e3 firstNZ at h
  by_cases h1 : chk a = 0
  · simp only [h1, if_true, firstNZ] at h
    by_cases h2 : chk b = 0
    · simp only [h2, if_true] at h
      by_cases h3 : chk c = 0
      · exact ⟨h1, h2, h3⟩
      · simp [h3] at h
    · simp [h2] at h
  · simp [h1] at h
theorem e3_of {a b c : Int} (h1 : chk a = 0) (h2 : chk b = 0) (h3 : chk c = 0) : e3 a b c = 0 := by simp [e3, firstNZ, h1, h2, h3]
/-- How many of three sets differ from one. -/
def wrongs (a b c t : Int) : Int := (if a = t then 0 else 1) + (if b = t then 0 else 1) + (if c = t then 0 else 1)
theorem vote_right {a b c : Nat} {t : Int} (h : wrongs a b c t ≤ 1) : ((voteN a b c : Nat) : Int) = t := by
  unfold wrongs at h
  by_cases h1 : (a : Int) = t
  · by_cases h2 : (b : Int) = t
    · have : a = b := by omega
      subst this; rw [vote_ab]; exact h1
    · by_cases h3 : (c : Int) = t
      · have : a = c := by omega
        subst this; rw [vote_ac]; exact h1
      · simp [h1, h2, h3] at h
  · by_cases h2 : (b : Int) = t
    · by_cases h3 : (c : Int) = t
      · have : b = c := by omega
        subst this; rw [vote_bc]; exact h2
      · simp [h1, h2, h3] at h
    · by_cases h3 : (c : Int) = t <;> simp [h1, h2, h3] at h
end Go.Proofs.Ytjbegiaceekgcaa.Eng

/-
  SEQUENCE: halls; mathematics.
-/
namespace Go.Proofs.Ytjbegiaceekgcaa.Eng
set_option linter.unusedSimpArgs false
set_option linter.unusedVariables false
/-- A rule of a hall. -/
structure Hr where
  s : Int
  o : Int
  k : Int
def Hr.enc (r : Hr) : AVal := .agg [.int .i64 r.s, .int .i64 r.o, .int .i64 r.k]
def hrs (R : List Hr) : List AVal := R.map Hr.enc
theorem hrs_fr (R : List Hr) : freeL (hrs R) = true := by
  unfold hrs
  induction R with
  | nil => rfl
  | cons r l ih => simp [freeL, AVal.free, Hr.enc, ih]
@[simp] theorem hrs_len (R : List Hr) : (hrs R).length = R.length := by simp [hrs]
def HrsV (R : List Hr) (v : AVal) : Prop := v = .list 3 (hrs R) none ∨ (v = .nils ∧ R = [])
def IntV (L : List Int) (v : AVal) : Prop := v = .list 1 (ints L) none ∨ (v = .nils ∧ L = [])
theorem HrsV.free {R : List Hr} {v : AVal} (h : HrsV R v) : v.free = true ∧ v.strip = v := by
  rcases h with rfl | ⟨rfl, _⟩
  · exact ⟨by simp [AVal.free, hrs_fr], by simp [AVal.strip, freeL_strip (hrs_fr R)]⟩
  · exact ⟨rfl, rfl⟩
theorem IntV.free {L : List Int} {v : AVal} (h : IntV L v) : v.free = true ∧ v.strip = v := by
  rcases h with rfl | ⟨rfl, _⟩
  · exact ⟨by simp [AVal.free, ints_fr], by simp [AVal.strip, freeL_strip (ints_fr L)]⟩
  · exact ⟨rfl, rfl⟩
theorem HrsV.len {R : List Hr} {v : AVal} (h : HrsV R v) : xlen v = some (.int .i64 R.length) ∧ v.down = v := by
  rcases h with rfl | ⟨rfl, rfl⟩ <;> simp [xlen]
theorem IntV.len {L : List Int} {v : AVal} (h : IntV L v) : xlen v = some (.int .i64 L.length) ∧ v.down = v := by
  rcases h with rfl | ⟨rfl, rfl⟩ <;> simp [xlen, ints_len]
theorem HrsV.ne {R : List Hr} {v : AVal} (h : HrsV R v) (hn : R ≠ []) : v = .list 3 (hrs R) none := by
  rcases h with rfl | ⟨_, e⟩
  · rfl
  · exact absurd e hn
theorem IntV.ne {L : List Int} {v : AVal} (h : IntV L v) (hn : L ≠ []) : v = .list 1 (ints L) none := by
  rcases h with rfl | ⟨_, e⟩
  · rfl
  · exact absurd e hn
/-- The error of a step that no plan has. -/
def chs (a : Int) : Int := if win a 0 9 then 0 else 6
def Hr.e (r : Hr) : Int := firstNZ [chs r.s, chs r.o, if win r.k 0 1 then 0 else 15]
/-- The first item with an error: its index and its error. -/
def fiE {α : Type} (f : α → Int) : List α → Nat → Nat × Int
  | [], _ => (0, 0)
  | x :: l, i => if f x = 0 then fiE f l (i + 1) else (i, f x)
theorem fiE_zero {α : Type} {f : α → Int} : ∀ {l : List α} {i : Nat}, (fiE f l i).2 = 0 → (fiE f l i).1 = 0
  | [], _, _ => rfl
  | x :: l, i, h => by
    unfold fiE at h ⊢
    by_cases c : f x = 0
    · simp only [c, if_true] at h ⊢; exact fiE_zero h
    · simp [c] at h
/-- Is another machine in a step? -/
def oth (m s : Int) : List Int → Nat → Bool
  | [], _ => false
  | x :: l, i => if (i : Int) ≠ m ∧ x = s then true else oth m s l (i + 1)
def brk (L : List Int) (m : Nat) (r : Hr) : Bool := decide (L.getD m 0 = r.s) && (oth m r.o L 0 != decide (r.k = 1))
def fiB (p : Hr → Bool) : List Hr → Nat → Option Nat
  | [], _ => none
  | r :: l, i => if p r then some i else fiB p l (i + 1)
/-- The first machine for which a rule does not hold, from machine m on, of so many. -/
def bkn (R : List Hr) (L : List Int) : Nat → Nat → Option (Nat × Nat)
  | 0, _ => none
  | k + 1, m => match fiB (brk L m) R 0 with
    | some j => some (m, j)
    | none => bkn R L k (m + 1)
def bkV : Option (Nat × Nat) → AVal
  | none => .tup [.agg [.int .i64 0, .int .i64 0], .bool false]
  | some (m, k) => .tup [.agg [.int .i64 m, .int .i64 k], .bool true]
/-- A hall's error, with its index; that of the steps of its machines. -/
def hallE (M : Int) (R : List Hr) : Nat × Int := if firstNZ [if win M 1 6 then 0 else 2, if R.length ≤ 12 then 0 else 8] = 0 then fiE Hr.e R 0 else (0, firstNZ [if win M 1 6 then 0 else 2, if R.length ≤ 12 then 0 else 8])
def stepsE (M : Int) (R : List Hr) (L : List Int) : Int := firstNZ [(hallE M R).2, if (L.length : Int) = M then 0 else 10, (fiE chs L 0).2]
end Go.Proofs.Ytjbegiaceekgcaa.Eng

/-
  A list that is copied.
-/
namespace Go.Proofs.Ytjbegiaceekgcaa.Eng
set_option linter.unusedSimpArgs false
set_option linter.unusedVariables false
theorem ints_cells (L : List Int) : (ints L).flatMap AVal.cells = ints L := by
  induction L with
  | nil => rfl
  | cons a l ih => show [AVal.int .i64 a] ++ (ints l).flatMap AVal.cells = _; rw [ih]; rfl
theorem ints_ones (L : List Int) : ones (ints L) = true := by
  induction L with
  | nil => rfl
  | cons a l ih =>
    show (([AVal.int .i64 a].all AVal.one) && ones (ints l)) = true
    rw [ih]; rfl
theorem apV {L : List Int} (h0 : L ≠ []) (hn : L.length ≤ 1000000000) {k : Nat} {σ : Store} (hk : σ.get k = some (.tok 3 1 0)) : xappendV σ 3 1 8 (.list 1 [] (some k)) (.list 1 (ints L) none) = some (.vlist 3 1 σ.next L.length, (σ.put k .gone).new (.cells (ints L))) := by
  have e : ints L ≠ [] := by cases L with
    | nil => exact absurd rfl h0
    | cons a l => simp [ints]
  have hl := ints_len L
  have hc := ints_cells L
  have ho := ints_ones L
  generalize hM : ints L = M at *
  cases M with
  | nil => exact absurd rfl e
  | cons a l =>
    have h1 : (a :: l).length * 8 ≤ 1000000000000 := by omega
    have h2 : (a :: l).length ≤ 1000000000000 := by omega
    simp only [xappendV, AVal.down, xappendW, ho, hk, hc]
    simp only [h1, h2, and_self, if_true, true_and, hl]
    simp
    omega
end Go.Proofs.Ytjbegiaceekgcaa.Eng

/-
  SEQUENCE: the steps after a machine entered one, of the reference: given.
-/
namespace Go.Proofs.Ytjbegiaceekgcaa.Eng
set_option linter.unusedSimpArgs false
set_option linter.unusedVariables false
def unints : List AVal → Option (List Int)
  | [] => some []
  | .int .i64 n :: l => match unints l with
    | some L => some (n :: L)
    | none => none
  | _ => none
theorem unints_ints (L : List Int) : unints (ints L) = some L := by
  induction L with
  | nil => rfl
  | cons a l ih => show (match unints (ints l) with | some L => some (a :: L) | none => none) = _; rw [ih]
theorem unints_eq : ∀ {xs : List AVal} {L : List Int}, unints xs = some L → xs = ints L
  | [], L, h => by simp only [unints] at h; cases h; rfl
  | x :: l, L, h => by
    unfold unints at h
    split at h
    · exact absurd (by assumption) (List.cons_ne_nil x l)
    · rename_i n l' e
      cases e
      split at h
      · rename_i L' h'
        cases h
        rw [unints_eq h']; rfl
      · cases h
    · cases h
/-- What the reference's Entered hands back. -/
def gEnt : List AVal → Option AVal
  | [.list 1 xs none, .agg [.int .i64 i, .int .i64 t]] => match unints xs with
    | some L => if 0 ≤ i ∧ i < L.length ∧ L.length ≤ 1000 then some (.list 1 (ints (L.set i.toNat t)) none) else none
    | none => none
  | _ => none
section
variable {X : FuncId → Option XFunc} (hX : SqECode X)
include hX
theorem clone33 {L : List Int} (h0 : L ≠ []) (hn : L.length ≤ 1000000000) (σ : Store) :
    ∃ n τ, Run X (.callK 33) [.list 1 (ints L) none] σ = some (.ret, [.vlist 3 1 n L.length], τ) ∧ σ.next ≤ n ∧ n < τ.next ∧ τ.get n = some (.cells (ints L)) ∧ (∀ m, m < σ.next → τ.get m = σ.get m) := by
  obtain ⟨N, hN⟩ : ∃ N, σ.next = N := ⟨_, rfl⟩
  have hk : (σ.new (.tok 3 1 0)).get N = some (.tok 3 1 0) := by rw [Store.get_new, hN, Mem.put_self]
  have hap := apV h0 hn hk
  have e : Ends (Run X (.code xe33.body) (frame [.list 1 (ints L) none] 6) σ) .ret fun tm' σ' => tm'.length = 6 ∧ XOpd.eval tm' (.t 2) = .vlist 3 1 (N + 1) L.length ∧ σ' = ((σ.new (.tok 3 1 0)).put N .gone).new (.cells (ints L)) := by
    have hl : (frame [.list 1 (ints L) none] 6).length = 6 := rfl
    have h0 := frame_0 (.list 1 (ints L) none) [] 6
    have nx : (σ.new (.tok 3 1 0)).next = N + 1 := by show σ.next + 1 = _; rw [hN]
    rw [nx] at hap
    generalize frame [.list 1 (ints L) none] 6 = tm at *
    simp [xe33, hl, h0, hN, hap, fillR, chunks]
  obtain ⟨o1, p1, p2, p3⟩ := out_of e
  generalize outT X xe33.body _ _ = tm3 at *
  generalize outS X xe33.body _ _ = σ3 at *
  refine ⟨N + 1, _, Run_callK hX.h33 (by simp) o1 (by simp [xe33, xresult_one, xret_t, p2]), by omega, ?_, ?_, fun m hm => ?_⟩
  · rw [gc_all, p3]; show N + 1 < σ.next + 1 + 1; omega
  · rw [gc_all, p3, Store.get_new]
    have : ((σ.new (.tok 3 1 0)).put N .gone).next = N + 1 := by show σ.next + 1 = _; rw [hN]
    rw [this, Mem.put_self]
  · rw [gc_all, p3, Store.get_new, Mem.put_ne _ (by show σ.next + 1 ≠ m; omega), Store.get_put, Mem.put_ne _ (by omega), Store.get_new, Mem.put_ne _ (by omega)]
theorem u46 {L : List Int} {i : Nat} (hi : i < L.length) (hn : L.length ≤ 1000) (t : Int) (σ : Store) : Run X (.call 46) [.list 1 (ints L) none, .agg [.int .i64 (i : Int), .int .i64 t]] σ = some (.ret, [.list 1 (ints (L.set i t)) none], σ) := by
  have fr := ints_fr L
  have fs := freeL_strip fr
  refine call2S (a := .list 1 (ints L) none) (b := .agg [.int .i64 (i : Int), .int .i64 t]) (y := .list 1 (ints (L.set i t)) none) hX.h46 (by simp [AVal.strip, AVal.free, fr, fs]) rfl (by decide) (fun tm hl h0 h1 => ?_) σ
  simp only [AVal.strip, stripL, fs] at h0 h1
  replace hl : tm.length = 15 := hl
  have hne : L ≠ [] := by intro e; simp [e] at hi
  obtain ⟨n, τ, k1, k2, k3, k4, k5⟩ := clone33 hX hne (by omega) ⟨[(0, .cells [.int .i64 (i : Int), .int .i64 t])], 1⟩
  have c0 : τ.get 0 = some (.cells [.int .i64 (i : Int), .int .i64 t]) := k5 0 (by show 0 < 1; omega)
  have hi' : i < (ints L).length := by rw [ints_len]; exact hi
  have hi2 : i + 1 ≤ (ints L).length := hi'
  have hset : (ints L).set i (.int .i64 t) = ints (L.set i t) := by simp [ints, List.map_set]
  have hlen : (L.set i t).length = L.length := List.length_set
  have hse : ∀ σ : Store, σ.get n = some (.cells (ints (L.set i t))) → sealR σ (.vlist 3 1 n L.length) = some (.list 1 (ints (L.set i t)) none) := fun σ h => by
    have := sealR_vints (e := 3) h
    rwa [hlen] at this
  have k2' : 1 ≤ n := k2
  obtain ⟨n', rfl⟩ : ∃ n', n = n' + 1 := ⟨n - 1, by omega⟩
  have hseal := hse (τ.put (n' + 1) (.cells (ints (L.set i t)))) (by rw [Store.get_put, Mem.put_self])
  unfold Seals
  simp [xe46, hl, h0, h1, k1, k4, c0, hi, hi', hi2, hset, hseal, xload, AVal.cells, AVal.one, sealsR, sealsO, xresult_one, xret_t, setR, Store.empty, Store.new, putL, look]
end
end Go.Proofs.Ytjbegiaceekgcaa.Eng

/-
  The example's plan.
-/
namespace Go.Proofs.Ytjbegiaceekgcaa.Eng
def sqOpen : ByteArray := "open".toUTF8
def sqSpeed : ByteArray := "speed".toUTF8
def sqRest : ByteArray := "rest".toUTF8
def sqStart : ByteArray := "start".toUTF8
def sqTurbine : ByteArray := "turbine".toUTF8
def sqStop : ByteArray := "stop".toUTF8
def sqBrake : ByteArray := "brake".toUTF8
def exPlan : AVal := .agg [.list 1 [.str sqOpen, .str sqSpeed] none, .int .i64 0, .list 14 [.agg [.str sqRest, .bool true, .int .i64 0, .int .i64 0, .int .i64 0, .int .i64 1, .list 1 [.int .i64 1] none, .int .i64 0, .int .i64 0, .int .i64 0, .int .i64 0, .int .i64 0, .int .i64 0, .int .i64 0], .agg [.str sqStart, .bool false, .int .i64 0, .int .i64 3, .int .i64 60, .int .i64 0, .nils, .int .i64 3, .int .i64 0, .int .i64 3, .int .i64 0, .int .i64 30, .int .i64 2, .int .i64 3], .agg [.str sqTurbine, .bool false, .int .i64 2, .int .i64 3, .int .i64 0, .int .i64 3, .list 1 [.int .i64 3] none, .int .i64 0, .int .i64 0, .int .i64 0, .int .i64 0, .int .i64 0, .int .i64 0, .int .i64 0], .agg [.str sqStop, .bool false, .int .i64 0, .int .i64 3, .int .i64 40, .int .i64 0, .nils, .int .i64 0, .int .i64 2, .int .i64 0, .int .i64 3, .int .i64 20, .int .i64 0, .int .i64 4], .agg [.str sqBrake, .bool false, .int .i64 0, .int .i64 4, .int .i64 90, .int .i64 0, .nils, .int .i64 0, .int .i64 1, .int .i64 0, .int .i64 3, .int .i64 50, .int .i64 0, .int .i64 0]] none]
def exHall : AVal := .agg [.int .i64 2, .list 3 [.agg [.int .i64 2, .int .i64 1, .int .i64 0], .agg [.int .i64 3, .int .i64 0, .int .i64 1]] none]
def exRest : AVal := .agg [.str sqRest, .bool true, .int .i64 0, .int .i64 0, .int .i64 0, .int .i64 1, .list 1 [.int .i64 1] none, .int .i64 0, .int .i64 0, .int .i64 0, .int .i64 0, .int .i64 0, .int .i64 0, .int .i64 0]
def exTurb : AVal := .agg [.str sqTurbine, .bool false, .int .i64 2, .int .i64 3, .int .i64 0, .int .i64 3, .list 1 [.int .i64 3] none, .int .i64 0, .int .i64 0, .int .i64 0, .int .i64 0, .int .i64 0, .int .i64 0, .int .i64 0]
def exM : AVal := .agg [.list 1 [.str sqOpen, .str sqSpeed] none, .int .i64 0, .list 14 [.agg [.str sqRest, .bool true, .int .i64 0, .int .i64 0, .int .i64 0, .int .i64 1, .list 1 [.int .i64 1] none, .int .i64 0, .int .i64 0, .int .i64 0, .int .i64 0, .int .i64 0, .int .i64 0, .int .i64 0], .agg [.str sqStart, .bool false, .int .i64 0, .int .i64 3, .int .i64 60, .int .i64 0, .nils, .int .i64 3, .int .i64 0, .int .i64 3, .int .i64 0, .int .i64 30, .int .i64 2, .int .i64 3], .agg [.str sqTurbine, .bool false, .int .i64 2, .int .i64 3, .int .i64 0, .int .i64 3, .list 1 [.int .i64 3] none, .int .i64 0, .int .i64 0, .int .i64 0, .int .i64 0, .int .i64 0, .int .i64 0, .int .i64 0], .agg [.str sqStop, .bool false, .int .i64 0, .int .i64 3, .int .i64 40, .int .i64 0, .nils, .int .i64 0, .int .i64 2, .int .i64 0, .int .i64 3, .int .i64 20, .int .i64 0, .int .i64 4], .agg [.str sqBrake, .bool false, .int .i64 0, .int .i64 4, .int .i64 90, .int .i64 0, .nils, .int .i64 0, .int .i64 1, .int .i64 0, .int .i64 3, .int .i64 50, .int .i64 0, .int .i64 0]] none, .int .i64 (-1), .bool false]
end Go.Proofs.Ytjbegiaceekgcaa.Eng

/-
  Examples: calls.
-/
namespace Go.Proofs.Ytjbegiaceekgcaa.Eng
open Go.Proofs
theorem exam47 : run (xprogG Try.prog [2000054, 127, 2000114, 2000097, 4000003, 1000095] [(46, 2, gEnt)]) 64 (.call 47) [] Store.empty = some (.ret, [exPlan], Store.empty) := by kernel_rfl
theorem exam49 : run (xprogG Try.prog [2000054, 127, 2000114, 2000097, 4000003, 1000095] [(46, 2, gEnt)]) 64 (.call 49) [] Store.empty = some (.ret, [exHall], Store.empty) := by kernel_rfl
theorem exam40 : run (xprogG Try.prog [2000054, 127, 2000114, 2000097, 4000003, 1000095] [(46, 2, gEnt)]) 128 (.call 40) [exHall, .list 1 [.int .i64 2, .int .i64 1] none] Store.empty = some (.ret, [.tup [.agg [.int .i64 0, .int .i64 0], .int .i64 0]], Store.empty) := by kernel_rfl
theorem exam40b : run (xprogG Try.prog [2000054, 127, 2000114, 2000097, 4000003, 1000095] [(46, 2, gEnt)]) 128 (.call 40) [exHall, .list 1 [.int .i64 0, .int .i64 0] none] Store.empty = some (.ret, [.tup [.agg [.int .i64 0, .int .i64 0], .int .i64 12]], Store.empty) := by kernel_rfl
theorem exam50 : run (xprogG Try.prog [2000054, 127, 2000114, 2000097, 4000003, 1000095] [(46, 2, gEnt)]) 64 (.call 50) [.list 1 [.int .i64 1] none, .list 1 [.int .i64 1] none] Store.empty = some (.ret, [.bool true], Store.empty) := by kernel_rfl
theorem exam28 : run (xprogG Try.prog [2000054, 127, 2000114, 2000097, 4000003, 1000095] [(46, 2, gEnt)]) 32 (.call 28) [] Store.empty = some (.ret, [.agg [.int .i64 (-1), .bool false]], Store.empty) := by kernel_rfl
end Go.Proofs.Ytjbegiaceekgcaa.Eng

/-
  Examples: calls.
-/
namespace Go.Proofs.Ytjbegiaceekgcaa.Eng
open Go.Proofs
theorem exam71 : run (xprogG Try.prog [2000054, 127, 2000114, 2000097, 4000003, 1000095] [(46, 2, gEnt)]) 512 (.call 71) [exPlan, .agg [.int .i64 0, .int .i64 0], .agg [.int .i64 (-1), .bool false]] Store.empty = some (.ret, [.tup [exM, .int .i64 0]], Store.empty) := by kernel_rfl
end Go.Proofs.Ytjbegiaceekgcaa.Eng

/-
  Examples: calls.
-/
namespace Go.Proofs.Ytjbegiaceekgcaa.Eng
open Go.Proofs
theorem exam84 : run (xprogG Try.prog [2000054, 127, 2000114, 2000097, 4000003, 1000095] [(46, 2, gEnt)]) 512 (.call 84) [exM, .int .i64 2, .agg [.int .i64 0, .int .i64 0]] Store.empty = some (.ret, [.list 2 [.agg [.list 1 [.int .i64 1] none, .int .i64 31], .agg [.list 1 [.int .i64 1, .int .i64 3, .int .i64 1] none, .int .i64 83], .agg [.list 1 [.int .i64 1, .int .i64 3, .int .i64 1, .int .i64 3, .int .i64 1] none, .int .i64 135], .agg [.list 1 [.int .i64 1, .int .i64 3, .int .i64 1, .int .i64 3, .int .i64 1, .int .i64 3, .int .i64 1] none, .int .i64 187], .agg [.list 1 [.int .i64 1, .int .i64 3, .int .i64 1, .int .i64 3, .int .i64 1, .int .i64 3, .int .i64 1, .int .i64 3, .int .i64 1] none, .int .i64 239]] none], Store.empty) := by kernel_rfl
end Go.Proofs.Ytjbegiaceekgcaa.Eng

/-
  Examples: calls.
-/
namespace Go.Proofs.Ytjbegiaceekgcaa.Eng
open Go.Proofs
theorem exam80 : run (xprogG Try.prog [2000054, 127, 2000114, 2000097, 4000003, 1000095] [(46, 2, gEnt)]) 64 (.call 80) [] Store.empty = some (.ret, [.agg [.int .i64 (-1), .bool false]], Store.empty) := by kernel_rfl
theorem exam81 : run (xprogG Try.prog [2000054, 127, 2000114, 2000097, 4000003, 1000095] [(46, 2, gEnt)]) 64 (.call 81) [.int .i64 2, .int .i64 5] Store.empty = some (.ret, [.int .i64 0], Store.empty) := by kernel_rfl
theorem exam51 : run (xprogG Try.prog [2000054, 127, 2000114, 2000097, 4000003, 1000095] [(46, 2, gEnt)]) 128 (.call 51) [.list 1 [.int .i64 0, .int .i64 0] none] Store.empty = some (.ret, [.int .i64 0], Store.empty) := by kernel_rfl
theorem exam83 : run (xprogG Try.prog [2000054, 127, 2000114, 2000097, 4000003, 1000095] [(46, 2, gEnt)]) 64 (.call 83) [exM, .agg [.int .i64 0, .int .i64 0]] Store.empty = some (.ret, [exRest], Store.empty) := by kernel_rfl
theorem exam82 : run (xprogG Try.prog [2000054, 127, 2000114, 2000097, 4000003, 1000095] [(46, 2, gEnt)]) 64 (.call 82) [exRest] Store.empty = some (.ret, [.bool true], Store.empty) := by kernel_rfl
theorem exam82b : run (xprogG Try.prog [2000054, 127, 2000114, 2000097, 4000003, 1000095] [(46, 2, gEnt)]) 64 (.call 82) [exTurb] Store.empty = some (.ret, [.bool true], Store.empty) := by kernel_rfl
theorem exam85 : run (xprogG Try.prog [2000054, 127, 2000114, 2000097, 4000003, 1000095] [(46, 2, gEnt)]) 256 (.call 85) [.list 2 [.agg [.list 1 [.int .i64 1] none, .int .i64 31], .agg [.list 1 [.int .i64 1, .int .i64 3, .int .i64 1] none, .int .i64 83], .agg [.list 1 [.int .i64 1, .int .i64 3, .int .i64 1, .int .i64 3, .int .i64 1] none, .int .i64 135], .agg [.list 1 [.int .i64 1, .int .i64 3, .int .i64 1, .int .i64 3, .int .i64 1, .int .i64 3, .int .i64 1] none, .int .i64 187], .agg [.list 1 [.int .i64 1, .int .i64 3, .int .i64 1, .int .i64 3, .int .i64 1, .int .i64 3, .int .i64 1, .int .i64 3, .int .i64 1] none, .int .i64 239]] none, .fn 86 [] []] Store.empty = some (.ret, [.agg [.list 1 [.int .i64 1] none, .int .i64 31]], Store.empty) := by kernel_rfl
end Go.Proofs.Ytjbegiaceekgcaa.Eng

/-
  Examples: calls.
-/
namespace Go.Proofs.Ytjbegiaceekgcaa.Eng
open Go.Proofs
theorem exam21 : run (xprogG Try.prog [2000054, 127, 2000114, 2000097, 4000003, 1000095] [(46, 2, gEnt)]) 512 (.call 21) [exPlan, .agg [.int .i64 1, .int .i64 0], .agg [.int .i64 (-1), .bool false, .int .i64 (-1)]] Store.empty = some (.ret, [.tup [.agg [.int .i64 2, .int .i64 3], .int .i64 30, .int .i64 0]], Store.empty) := by kernel_rfl
end Go.Proofs.Ytjbegiaceekgcaa.Eng

/-
  Examples: calls.
-/
namespace Go.Proofs.Ytjbegiaceekgcaa.Eng
open Go.Proofs
theorem exam48 : run (xprogG Try.prog [2000054, 127, 2000114, 2000097, 4000003, 1000095] [(46, 2, gEnt)]) 512 (.call 48) [exPlan, .agg [.int .i64 2, .int .i64 3], .agg [.int .i64 1, .bool true]] Store.empty = some (.ret, [.tup [.list 2 [.agg [.int .i64 3, .int .i64 3], .agg [.int .i64 4, .int .i64 0], .agg [.int .i64 0, .int .i64 0]] none, .int .i64 91, .int .i64 0]], Store.empty) := by kernel_rfl
end Go.Proofs.Ytjbegiaceekgcaa.Eng

/-
  The examples hold.
-/
namespace Go.Proofs.Ytjbegiaceekgcaa.Eng
open Go.Proofs
set_option linter.unusedSimpArgs false
set_option linter.unusedVariables false
theorem xawX : SqAwXCode (xprogG Try.prog [2000054, 127, 2000114, 2000097, 4000003, 1000095] [(46, 2, gEnt)]) where
  h8 := by kernel_rfl
  h31 := by kernel_rfl
theorem ex_any {f : FuncId} {args : List AVal} {v : AVal} {n : Nat} (hf : freeL (stripL args) = true) (h : run (xprogG Try.prog [2000054, 127, 2000114, 2000097, 4000003, 1000095] [(46, 2, gEnt)]) n (.call f) args Store.empty = some (.ret, [v], Store.empty)) (σ : Store) : Run (xprogG Try.prog [2000054, 127, 2000114, 2000097, 4000003, 1000095] [(46, 2, gEnt)]) (.call f) args σ = some (.ret, [v], σ) :=
  pure_any hf ((Run_iff _ _ _ _ _).mpr ⟨_, h⟩) σ
theorem call31 {X : FuncId → Option XFunc} (hX : SqAwXCode X)
    (ea : ∀ σ, Run X (.call 71) [exPlan, .agg [.int .i64 0, .int .i64 0], .agg [.int .i64 (-1), .bool false]] σ = some (.ret, [.tup [exM, .int .i64 0]], σ))
    (eb : ∀ σ, Run X (.call 84) [exM, .int .i64 2, .agg [.int .i64 0, .int .i64 0]] σ = some (.ret, [.list 2 [.agg [.list 1 [.int .i64 1] none, .int .i64 31], .agg [.list 1 [.int .i64 1, .int .i64 3, .int .i64 1] none, .int .i64 83], .agg [.list 1 [.int .i64 1, .int .i64 3, .int .i64 1, .int .i64 3, .int .i64 1] none, .int .i64 135], .agg [.list 1 [.int .i64 1, .int .i64 3, .int .i64 1, .int .i64 3, .int .i64 1, .int .i64 3, .int .i64 1] none, .int .i64 187], .agg [.list 1 [.int .i64 1, .int .i64 3, .int .i64 1, .int .i64 3, .int .i64 1, .int .i64 3, .int .i64 1, .int .i64 3, .int .i64 1] none, .int .i64 239]] none], σ))
    (ec : ∀ σ, Run X (.call 80) [] σ = some (.ret, [.agg [.int .i64 (-1), .bool false]], σ))
    (ed : ∀ σ, Run X (.call 81) [.int .i64 2, .int .i64 5] σ = some (.ret, [.int .i64 0], σ))
    (ee : ∀ σ, Run X (.call 51) [.list 1 [.int .i64 0, .int .i64 0] none] σ = some (.ret, [.int .i64 0], σ))
    (ef : ∀ σ, Run X (.call 83) [exM, .agg [.int .i64 0, .int .i64 0]] σ = some (.ret, [exRest], σ))
    (eg : ∀ σ, Run X (.call 82) [exRest] σ = some (.ret, [.bool true], σ))
    (eh : ∀ σ, Run X (.call 82) [exTurb] σ = some (.ret, [.bool true], σ))
    (ei : ∀ σ, Run X (.call 85) [.list 2 [.agg [.list 1 [.int .i64 1] none, .int .i64 31], .agg [.list 1 [.int .i64 1, .int .i64 3, .int .i64 1] none, .int .i64 83], .agg [.list 1 [.int .i64 1, .int .i64 3, .int .i64 1, .int .i64 3, .int .i64 1] none, .int .i64 135], .agg [.list 1 [.int .i64 1, .int .i64 3, .int .i64 1, .int .i64 3, .int .i64 1, .int .i64 3, .int .i64 1] none, .int .i64 187], .agg [.list 1 [.int .i64 1, .int .i64 3, .int .i64 1, .int .i64 3, .int .i64 1, .int .i64 3, .int .i64 1, .int .i64 3, .int .i64 1] none, .int .i64 239]] none, .fn 86 [] []] σ = some (.ret, [.agg [.list 1 [.int .i64 1] none, .int .i64 31]], σ)) (σ : Store) :
    Run X (.call 31) [exPlan, .agg [.int .i64 0, .int .i64 0], .int .i64 2] σ = some (.ret, [.tup [.list 1 [.int .i64 1] none, .int .i64 31, .int .i64 0]], σ) := by
  have st : exPlan.strip = exPlan := by simp [exPlan, AVal.strip, stripL]
  have fr : exPlan.free = true := by simp [exPlan, AVal.free, freeL]
  have st2 : exM.strip = exM := by simp [exM, AVal.strip, stripL]
  have fr2 : exM.free = true := by simp [exM, AVal.free, freeL]
  have st3 : exRest.strip = exRest := by simp [exRest, AVal.strip, stripL]
  have fr3 : exRest.free = true := by simp [exRest, AVal.free, freeL]
  have st4 : exTurb.strip = exTurb := by simp [exTurb, AVal.strip, stripL]
  have fr4 : exTurb.free = true := by simp [exTurb, AVal.free, freeL]
  have ee' : ∀ t σ, Run X (.call 51) [.list 1 [.int .i64 0, .int .i64 0] t] σ = some (.ret, [.int .i64 0], σ) := fun t σ => by rw [call_stripped rfl]; exact ee σ
  refine call3 (a := exPlan) (b := .agg [.int .i64 0, .int .i64 0]) (c := .int .i64 2) (v := .tup [.list 1 [.int .i64 1] none, .int .i64 31, .int .i64 0]) hX.h31 (by rw [st]; exact fr) rfl rfl (by decide) (fun tm hl h0 h1 h2 => ?_) rfl σ
  replace hl : tm.length = 63 := hl
  simp only [AVal.strip, stripL, st] at h0 h1 h2
  have g1 : exPlan = .agg [.list 1 [.str sqOpen, .str sqSpeed] none, .int .i64 0, .list 14 [.agg [.str sqRest, .bool true, .int .i64 0, .int .i64 0, .int .i64 0, .int .i64 1, .list 1 [.int .i64 1] none, .int .i64 0, .int .i64 0, .int .i64 0, .int .i64 0, .int .i64 0, .int .i64 0, .int .i64 0], .agg [.str sqStart, .bool false, .int .i64 0, .int .i64 3, .int .i64 60, .int .i64 0, .nils, .int .i64 3, .int .i64 0, .int .i64 3, .int .i64 0, .int .i64 30, .int .i64 2, .int .i64 3], .agg [.str sqTurbine, .bool false, .int .i64 2, .int .i64 3, .int .i64 0, .int .i64 3, .list 1 [.int .i64 3] none, .int .i64 0, .int .i64 0, .int .i64 0, .int .i64 0, .int .i64 0, .int .i64 0, .int .i64 0], .agg [.str sqStop, .bool false, .int .i64 0, .int .i64 3, .int .i64 40, .int .i64 0, .nils, .int .i64 0, .int .i64 2, .int .i64 0, .int .i64 3, .int .i64 20, .int .i64 0, .int .i64 4], .agg [.str sqBrake, .bool false, .int .i64 0, .int .i64 4, .int .i64 90, .int .i64 0, .nils, .int .i64 0, .int .i64 1, .int .i64 0, .int .i64 3, .int .i64 50, .int .i64 0, .int .i64 0]] none] := rfl
  have g2 : exM = .agg [.list 1 [.str sqOpen, .str sqSpeed] none, .int .i64 0, .list 14 [.agg [.str sqRest, .bool true, .int .i64 0, .int .i64 0, .int .i64 0, .int .i64 1, .list 1 [.int .i64 1] none, .int .i64 0, .int .i64 0, .int .i64 0, .int .i64 0, .int .i64 0, .int .i64 0, .int .i64 0], .agg [.str sqStart, .bool false, .int .i64 0, .int .i64 3, .int .i64 60, .int .i64 0, .nils, .int .i64 3, .int .i64 0, .int .i64 3, .int .i64 0, .int .i64 30, .int .i64 2, .int .i64 3], .agg [.str sqTurbine, .bool false, .int .i64 2, .int .i64 3, .int .i64 0, .int .i64 3, .list 1 [.int .i64 3] none, .int .i64 0, .int .i64 0, .int .i64 0, .int .i64 0, .int .i64 0, .int .i64 0, .int .i64 0], .agg [.str sqStop, .bool false, .int .i64 0, .int .i64 3, .int .i64 40, .int .i64 0, .nils, .int .i64 0, .int .i64 2, .int .i64 0, .int .i64 3, .int .i64 20, .int .i64 0, .int .i64 4], .agg [.str sqBrake, .bool false, .int .i64 0, .int .i64 4, .int .i64 90, .int .i64 0, .nils, .int .i64 0, .int .i64 1, .int .i64 0, .int .i64 3, .int .i64 50, .int .i64 0, .int .i64 0]] none, .int .i64 (-1), .bool false] := rfl
  have g3 : exTurb = .agg [.str sqTurbine, .bool false, .int .i64 2, .int .i64 3, .int .i64 0, .int .i64 3, .list 1 [.int .i64 3] none, .int .i64 0, .int .i64 0, .int .i64 0, .int .i64 0, .int .i64 0, .int .i64 0, .int .i64 0] := rfl
  rw [g1] at h0 ea
  rw [g2] at ea eb ef
  rw [g3] at eh
  rw [g1] at st fr
  rw [g2] at st2 fr2
  rw [g3] at st4 fr4
  unfold Gives
  simp [xf31, hl, h0, h1, h2, ea, eb, ec, ed, ee', ef, eg, eh, ei, st, fr, st2, fr2, st3, fr3, st4, fr4, xlen, xload, xresult, xrets, xret_t, ix1, ix2, Store.empty, Store.new, Store.put, Store.get, look, putL, setR, Store.only, Store.merge, touch, wrote, upTo, isIn, okRec, hits, capsOf, xcaps, stripL, AVal.strip, freeL, AVal.free, fillR, chunks, mkV, List.filter]
theorem awake8 {X : FuncId → Option XFunc} (hX : SqAwXCode X) (ea : ∀ σ, Run X (.call 47) [] σ = some (.ret, [exPlan], σ)) (eb : ∀ σ, Run X (.call 28) [] σ = some (.ret, [.agg [.int .i64 (-1), .bool false]], σ))
    (ec : ∀ σ, Run X (.call 21) [exPlan, .agg [.int .i64 1, .int .i64 0], .agg [.int .i64 (-1), .bool false, .int .i64 (-1)]] σ = some (.ret, [.tup [.agg [.int .i64 2, .int .i64 3], .int .i64 30, .int .i64 0]], σ))
    (ed : ∀ σ, Run X (.call 48) [exPlan, .agg [.int .i64 2, .int .i64 3], .agg [.int .i64 1, .bool true]] σ = some (.ret, [.tup [.list 2 [.agg [.int .i64 3, .int .i64 3], .agg [.int .i64 4, .int .i64 0], .agg [.int .i64 0, .int .i64 0]] none, .int .i64 91, .int .i64 0]], σ))
    (ee : ∀ σ, Run X (.call 31) [exPlan, .agg [.int .i64 0, .int .i64 0], .int .i64 2] σ = some (.ret, [.tup [.list 1 [.int .i64 1] none, .int .i64 31, .int .i64 0]], σ))
    (ef : ∀ σ, Run X (.call 49) [] σ = some (.ret, [exHall], σ))
    (eg : ∀ σ, Run X (.call 40) [exHall, .list 1 [.int .i64 2, .int .i64 1] none] σ = some (.ret, [.tup [.agg [.int .i64 0, .int .i64 0], .int .i64 0]], σ))
    (eh : ∀ σ, Run X (.call 40) [exHall, .list 1 [.int .i64 0, .int .i64 0] none] σ = some (.ret, [.tup [.agg [.int .i64 0, .int .i64 0], .int .i64 12]], σ))
    (ei : ∀ σ, Run X (.call 50) [.list 1 [.int .i64 1] none, .list 1 [.int .i64 1] none] σ = some (.ret, [.bool true], σ)) (σ : Store) : Run X (.call 8) [] σ = some (.ret, [.bool true], σ) := by
  have st : exPlan.strip = exPlan := by simp [exPlan, AVal.strip, stripL]
  have fr : exPlan.free = true := by simp [exPlan, AVal.free, freeL]
  have st2 : exHall.strip = exHall := by simp [exHall, AVal.strip, stripL]
  have fr2 : exHall.free = true := by simp [exHall, AVal.free, freeL]
  have eg' : ∀ t σ, Run X (.call 40) [exHall, .list 1 [.int .i64 2, .int .i64 1] t] σ = some (.ret, [.tup [.agg [.int .i64 0, .int .i64 0], .int .i64 0]], σ) := fun t σ => by rw [call_stripped (by simp [fr2, stripL, AVal.strip, st2, freeL, AVal.free])]; simpa [stripL, st2, AVal.strip] using eg σ
  have eh' : ∀ t σ, Run X (.call 40) [exHall, .list 1 [.int .i64 0, .int .i64 0] t] σ = some (.ret, [.tup [.agg [.int .i64 0, .int .i64 0], .int .i64 12]], σ) := fun t σ => by rw [call_stripped (by simp [fr2, stripL, AVal.strip, st2, freeL, AVal.free])]; simpa [stripL, st2, AVal.strip] using eh σ
  have ei' : ∀ t σ, Run X (.call 50) [.list 1 [.int .i64 1] none, .list 1 [.int .i64 1] t] σ = some (.ret, [.bool true], σ) := fun t σ => by rw [call_stripped rfl]; exact ei σ
  refine call_pure (v := .bool true) hX.h8 rfl ?_ rfl σ
  have hl : (stripL [] ++ List.replicate (xf8.ntmps - (stripL []).length) aundef).length = 100 := by simp [stripL, xf8]
  generalize stripL [] ++ List.replicate (xf8.ntmps - (stripL []).length) aundef = tm at *
  unfold Gives
  simp [xf8, hl, ea, eb, ec, ed, ee, ef, eg', eh', ei', st, fr, st2, fr2, Store.empty, Store.new, Store.put, Store.get, look, putL, setR, Store.only, Store.merge, touch, wrote, upTo, isIn, okRec, hits, capsOf, xcaps, stripL, AVal.strip, freeL, AVal.free, fillR, chunks, mkV, List.filter]
theorem awake_true (σ : Store) : Run (xprogG Try.prog [2000054, 127, 2000114, 2000097, 4000003, 1000095] [(46, 2, gEnt)]) (.call 8) [] σ = some (.ret, [.bool true], σ) :=
  awake8 xawX (ex_any rfl exam47) (ex_any rfl exam28) (ex_any (by simp [exPlan, AVal.strip, stripL, AVal.free, freeL]) exam21) (ex_any (by simp [exPlan, AVal.strip, stripL, AVal.free, freeL]) exam48) (call31 xawX (ex_any (by simp [exPlan, AVal.strip, stripL, AVal.free, freeL]) exam71) (ex_any (by simp [exM, AVal.strip, stripL, AVal.free, freeL]) exam84) (ex_any rfl exam80) (ex_any rfl exam81) (ex_any rfl exam51) (ex_any (by simp [exM, AVal.strip, stripL, AVal.free, freeL]) exam83) (ex_any (by simp [exRest, AVal.strip, stripL, AVal.free, freeL]) exam82) (ex_any (by simp [exTurb, AVal.strip, stripL, AVal.free, freeL]) exam82b) (ex_any rfl exam85)) (ex_any rfl exam49) (ex_any (by simp [exHall, AVal.strip, stripL, AVal.free, freeL]) exam40) (ex_any (by simp [exHall, AVal.strip, stripL, AVal.free, freeL]) exam40b) (ex_any rfl exam50) σ
end Go.Proofs.Ytjbegiaceekgcaa.Eng

/-
  What the rows share.
-/
namespace Go.Proofs.Ytjbegiaceekgcaa
open Go.ChangeShapes Go.WideShapes Go.ChangeAt Go.RowKit Go.Proofs.Ytjbegiaceekgcaa.Eng
set_option linter.unusedSimpArgs false
set_option linter.unusedVariables false

theorem own : ownKnob Try.prog.godebug = none := by kernel_rfl
theorem laid : laidOutB Try.prog = true := by kernel_rfl
theorem rowed : mapsRowed Try.prog = true := by kernel_rfl
theorem sliced : slicesOk Try.prog = true := by kernel_rfl
theorem drawn : Try.prog.follows .mixedOrders = true := by kernel_rfl

theorem awake_run (σ : Store) : Run (xprogG Try.prog [2000054, 127, 2000114, 2000097, 4000003, 1000095] [(46, 2, gEnt)]) (.call 8) [] σ = some (.ret, [.bool true], σ) := awake_true σ
end Go.Proofs.Ytjbegiaceekgcaa

/-
  Values of the rows' types: halls, steps, entries.
-/
namespace Go.Proofs.Ytjbegiaceekgcaa
open Go.ChangeShapes Go.WideShapes Go.ChangeAt Go.RowKit Go.Proofs.Ytjbegiaceekgcaa.Eng
set_option linter.unusedSimpArgs false
set_option linter.unusedVariables false
theorem cells3 : Try.prog.cellsOf 3 = 1 := by kernel_rfl
theorem cells153 : Try.prog.cellsOf 153 = 3 := by kernel_rfl
theorem ints_list : ∀ {xs : List AVal}, (∀ y ∈ xs, HasV Try.prog 3 y) → ∃ L, xs = ints L
  | [], _ => ⟨[], rfl⟩
  | x :: xs, h => by
    obtain ⟨u, rfl, _⟩ := (h x (by simp)).int_inv Try.underlying3
    obtain ⟨L, rfl⟩ := ints_list (xs := xs) fun y hy => h y (by simp [hy])
    exact ⟨u :: L, rfl⟩
theorem ints_val {v : AVal} (h : HasV Try.prog 62 v) : ∃ L, IntV L v := by
  rcases h.slice_inv Try.underlying62 with rfl | ⟨xs, rfl, _, hx⟩
  · exact ⟨[], .inr ⟨rfl, rfl⟩⟩
  · obtain ⟨L, rfl⟩ := ints_list hx
    exact ⟨L, .inl (by rw [cells3])⟩
theorem rule_has {x : AVal} (h : HasV Try.prog 153 x) : ∃ r : Hr, x = r.enc := by
  obtain ⟨vs, rfl, hl, hv⟩ := h.struct_inv Try.underlying153
  match vs, hl with
  | [a, b, c], _ =>
    obtain ⟨x, rfl, _⟩ := (hv 0 _ _ rfl rfl).int_inv Try.underlying3
    obtain ⟨y, rfl, _⟩ := (hv 1 _ _ rfl rfl).int_inv Try.underlying3
    obtain ⟨z, rfl, _⟩ := (hv 2 _ _ rfl rfl).int_inv Try.underlying3
    exact ⟨⟨x, y, z⟩, rfl⟩
theorem rule_list : ∀ {xs : List AVal}, (∀ y ∈ xs, HasV Try.prog 153 y) → ∃ R : List Hr, xs = hrs R
  | [], _ => ⟨[], rfl⟩
  | x :: xs, h => by
    obtain ⟨s, rfl⟩ := rule_has (h x (by simp))
    obtain ⟨l, rfl⟩ := rule_list (xs := xs) fun y hy => h y (by simp [hy])
    exact ⟨s :: l, rfl⟩
theorem hall_val {v : AVal} (h : HasV Try.prog 82 v) : ∃ M R w, v = .agg [.int .i64 M, w] ∧ HrsV R w := by
  obtain ⟨vs, rfl, hl, hv⟩ := h.struct_inv Try.underlying82
  match vs, hl with
  | [a, b], _ =>
    obtain ⟨x, rfl, _⟩ := (hv 0 _ _ rfl rfl).int_inv Try.underlying3
    rcases (hv 1 _ _ rfl rfl).slice_inv Try.underlying80 with rfl | ⟨xs, rfl, _, hx⟩
    · exact ⟨x, [], .nils, rfl, .inr ⟨rfl, rfl⟩⟩
    · obtain ⟨R, rfl⟩ := rule_list hx
      exact ⟨x, R, _, rfl, .inl (by rw [cells153])⟩
theorem entry_val {v : AVal} (h : HasV Try.prog 84 v) : ∃ m t : Int, v = .agg [.int .i64 m, .int .i64 t] := by
  obtain ⟨vs, rfl, hl, hv⟩ := h.struct_inv Try.underlying84
  match vs, hl with
  | [a, b], _ =>
    obtain ⟨x, rfl, _⟩ := (hv 0 _ _ rfl rfl).int_inv Try.underlying3
    obtain ⟨y, rfl, _⟩ := (hv 1 _ _ rfl rfl).int_inv Try.underlying3
    exact ⟨x, y, rfl⟩
end Go.Proofs.Ytjbegiaceekgcaa

/-
  SEQUENCE: halls: checks.
-/
namespace Go.Proofs.Ytjbegiaceekgcaa.Eng
set_option linter.unusedSimpArgs false
set_option linter.unusedVariables false
section
variable {X : FuncId → Option XFunc} (hX : SqLCode X)
include hX
theorem w45 (a b c : Int) (σ : Store) : Run X (.call 45) [.int .i64 a, .int .i64 b, .int .i64 c] σ = some (.ret, [.bool (win a b c)], σ) := by
  refine call3 (X := X) (a := .int .i64 a) (b := .int .i64 b) (c := .int .i64 c) (v := .bool (win a b c)) hX.h45 rfl rfl rfl (by decide) (fun tm hl h0 h1 h2 => ?_) rfl σ
  simp only [AVal.strip, stripL] at h0 h1 h2
  replace hl : tm.length = 15 := hl
  unfold Gives
  by_cases e1 : b ≤ a <;> simp [xf45, hl, h0, h1, h2, e1, win]
theorem w112 (a b c : Int) (σ : Store) : Run X (.call 112) [.int .i64 a, .int .i64 b, .int .i64 c] σ = some (.ret, [.bool (win a b c)], σ) := by
  refine call3 (X := X) (a := .int .i64 a) (b := .int .i64 b) (c := .int .i64 c) (v := .bool (win a b c)) hX.h112 rfl rfl rfl (by decide) (fun tm hl h0 h1 h2 => ?_) rfl σ
  simp only [AVal.strip, stripL] at h0 h1 h2
  replace hl : tm.length = 15 := hl
  unfold Gives
  by_cases e1 : b ≤ a <;> simp [xf112, hl, h0, h1, h2, e1, win]
theorem w56 (c : Bool) (e : Int) (σ : Store) : Run X (.call 56) [.bool c, .int .i64 e] σ = some (.ret, [.int .i64 (if c then 0 else e)], σ) := by
  refine call2 (X := X) (a := .bool c) (b := .int .i64 e) (v := .int .i64 (if c then 0 else e)) hX.h56 rfl rfl (by decide) (fun tm hl h0 h1 => ?_) rfl σ
  simp only [AVal.strip, stripL] at h0 h1
  replace hl : tm.length = 7 := hl
  unfold Gives
  cases c <;> simp [xf56, hl, h0, h1]
theorem w90 (a b c : Int) (σ : Store) : Run X (.call 90) [.int .i64 a, .int .i64 b, .int .i64 c] σ = some (.ret, [.int .i64 (if win a b c then 0 else 2)], σ) := by
  refine call3 (X := X) (a := .int .i64 a) (b := .int .i64 b) (c := .int .i64 c) (v := .int .i64 (if win a b c then 0 else 2)) hX.h90 rfl rfl rfl (by decide) (fun tm hl h0 h1 h2 => ?_) rfl σ
  simp only [AVal.strip, stripL] at h0 h1 h2
  replace hl : tm.length = 12 := hl
  unfold Gives
  simp [xf90, hl, h0, h1, h2, w112 hX, w56 hX]
theorem w81 {a n : Int} (hn : IntKind.i64.wrap (n - 1) = n - 1) (σ : Store) : Run X (.call 81) [.int .i64 a, .int .i64 n] σ = some (.ret, [.int .i64 (if win a 0 (n - 1) then 0 else 6)], σ) := by
  refine call2 (X := X) (a := .int .i64 a) (b := .int .i64 n) (v := .int .i64 (if win a 0 (n - 1) then 0 else 6)) hX.h81 rfl rfl (by decide) (fun tm hl h0 h1 => ?_) rfl σ
  simp only [AVal.strip, stripL] at h0 h1
  replace hl : tm.length = 10 := hl
  unfold Gives
  simp [xf81, hl, h0, h1, hn, w112 hX, w56 hX]
theorem w96 (a : Int) (σ : Store) : Run X (.call 96) [.int .i64 a] σ = some (.ret, [.int .i64 (chs a)], σ) := by
  refine call1 (X := X) (a := .int .i64 a) (v := .int .i64 (chs a)) hX.h96 rfl (by decide) (fun tm hl h0 => ?_) rfl σ
  simp only [AVal.strip, stripL] at h0
  replace hl : tm.length = 5 := hl
  unfold Gives
  have u := fun σ => w81 hX (a := a) (n := 10) (by decide) σ
  simp only [show (10 : Int) - 1 = 9 from rfl] at u
  simp [xf96, hl, h0, u, chs]
theorem w98 (a : Int) (σ : Store) : Run X (.call 98) [.int .i64 a] σ = some (.ret, [.bool (win a 0 9)], σ) := by
  refine call1 (X := X) (a := .int .i64 a) (v := .bool (win a 0 9)) hX.h98 rfl (by decide) (fun tm hl h0 => ?_) rfl σ
  simp only [AVal.strip, stripL] at h0
  replace hl : tm.length = 5 := hl
  unfold Gives
  simp [xf98, hl, h0, w45 hX]
theorem w91 {R : List Hr} {v : AVal} (h : HrsV R v) (σ : Store) : Run X (.call 91) [v, .int .i64 12] σ = some (.ret, [.int .i64 (if R.length ≤ 12 then 0 else 8)], σ) := by
  refine call2 (a := v) (b := .int .i64 12) (v := .int .i64 (if R.length ≤ 12 then 0 else 8)) hX.h91 (by rw [h.free.2]; exact h.free.1) rfl (by decide) (fun tm hl h0 h1 => ?_) rfl σ
  rw [h.free.2] at h0
  simp only [AVal.strip, stripL] at h1
  replace hl : tm.length = 10 := hl
  obtain ⟨hln, hdn⟩ := h.len
  unfold Gives
  by_cases c : R.length ≤ 12
  · have c' : (R.length : Int) ≤ 12 := by omega
    simp [xf91, hl, h0, h1, hln, hdn, w56 hX, c, c']
  · have c' : ¬ (R.length : Int) ≤ 12 := by omega
    simp [xf91, hl, h0, h1, hln, hdn, w56 hX, c, c']
omit hX in
theorem loop51 (es : List Int) (hn : es.length ≤ 1000000000) : ∀ (k i : Nat), i + k = es.length → ∀ (tm : List AVal) (σ : Store), tm.length = 15 → XOpd.eval tm (.t 5) = .list 1 (es.map (.int .i64)) none → XOpd.eval tm (.t 6) = .int .i64 es.length → XOpd.eval tm (.t 7) = .int .i64 i →
    Ends (Run X (.code (.loop xf51l0)) tm σ) (if firstNZ (es.drop i) = 0 then .exit 0 else .ret) fun tm' _ => tm'.length = 15 ∧ (firstNZ (es.drop i) ≠ 0 → XOpd.eval tm' (.t 2) = .int .i64 (firstNZ (es.drop i)))
  | 0, i, hk, tm, σ, hl, h5, h6, h7 => by
    have hi : i = es.length := by omega
    subst hi
    rw [Run_loop]
    simp [xf51l0, hl, h5, h6, h7, firstNZ]
  | k + 1, i, hk, tm, σ, hl, h5, h6, h7 => by
    have hi : i < es.length := by omega
    have hd : es.drop i = es[i] :: es.drop (i + 1) := List.drop_eq_getElem_cons hi
    have hw : IntKind.i64.wrap ((i : Int) + 1) = ((i + 1 : Nat) : Int) := by rw [wrap_i64] <;> omega
    rw [Run_loop, hd]
    by_cases he : es[i] = 0
    · have ih := loop51 es hn k (i + 1) (by omega)
      simp only [firstNZ, he, if_true]
      simp [xf51l0, hl, h5, h6, h7, hi, he, hw, xload, AVal.cells]
      exact ih _ _ (by simp [hl]) (by simp [hl, h5]) (by simp [hl, h6]) (by simp [hl])
    · simp only [firstNZ, he, if_false]
      simp [xf51l0, hl, h5, h6, h7, hi, he, xload, AVal.cells]
omit hX in
theorem eints_free (es : List Int) : freeL (es.map (AVal.int .i64)) = true := by
  induction es with
  | nil => rfl
  | cons e l ih => simp [freeL, AVal.free, ih]
theorem w51 (es : List Int) (hn : es.length ≤ 1000000000) (tok : Option Nat) (σ : Store) : Run X (.call 51) [.list 1 (es.map (.int .i64)) tok] σ = some (.ret, [.int .i64 (firstNZ es)], σ) := by
  refine call1 (v := .int .i64 (firstNZ es)) hX.h51 (by simp [AVal.strip, AVal.free, freeL_strip (eints_free es), eints_free]) (by decide) (fun tm hl h0 => ?_) rfl σ
  simp only [AVal.strip, freeL_strip (eints_free es)] at h0
  replace hl : tm.length = 15 := hl
  have hL := fun tm σ h1 h2 h3 h4 => out_of (loop51 (X := X) es hn es.length 0 (by omega) tm σ h1 h2 h3 h4)
  simp only [List.drop_zero] at hL
  unfold Gives
  by_cases he : firstNZ es = 0
  · simp only [he, if_true] at hL
    simp (maxDischargeDepth := 9) [xf51, hl, h0, hL, he, xlen]
  · simp only [he, if_false] at hL
    simp (maxDischargeDepth := 9) [xf51, hl, h0, hL, he, xlen]
theorem first2 (a b : Int) (tok : Option Nat) (σ : Store) : Run X (.call 51) [.list 1 [.int .i64 a, .int .i64 b] tok] σ = some (.ret, [.int .i64 (firstNZ [a, b])], σ) := w51 hX [a, b] (by simp) tok σ
theorem first3 (a b c : Int) (tok : Option Nat) (σ : Store) : Run X (.call 51) [.list 1 [.int .i64 a, .int .i64 b, .int .i64 c] tok] σ = some (.ret, [.int .i64 (firstNZ [a, b, c])], σ) := w51 hX [a, b, c] (by simp) tok σ
set_option maxHeartbeats 4000000 in
theorem w93 (r : Hr) (σ : Store) : Run X (.call 93) [.agg [.int .i64 r.s, .int .i64 r.o, .int .i64 r.k]] σ = some (.ret, [.int .i64 r.e], σ) := by
  refine call1 (X := X) (a := .agg [.int .i64 r.s, .int .i64 r.o, .int .i64 r.k]) (v := .int .i64 r.e) hX.h93 (by simp [AVal.strip, stripL, AVal.free, freeL]) (by decide) (fun tm hl h0 => ?_) rfl σ
  simp only [AVal.strip, stripL] at h0
  replace hl : tm.length = 15 := hl
  unfold Gives
  unfold Hr.e
  simp [xf93, hl, h0, w96 hX, w112 hX, w56 hX, first3 hX, Store.empty, Store.new, Store.put, Store.get, look, putL, setR, Store.only, Store.merge, touch, wrote, upTo, isIn, okRec, hits, capsOf, xcaps, stripL, AVal.strip, freeL, AVal.free, fillR, chunks, mkV, List.filter]
theorem loop119 (L : List Int) {v : AVal} (hv : IntV L v) (hn : L.length ≤ 1000000000) : ∀ (k i : Nat), i + k = L.length → ∀ (tm : List AVal) (σ : Store), tm.length = 24 → XOpd.eval tm (.t 1) = .fn 96 [] [] → XOpd.eval tm (.t 9) = v → XOpd.eval tm (.t 10) = .int .i64 L.length → XOpd.eval tm (.t 11) = .int .i64 i →
    Ends (Run X (.code (.loop xf119l0)) tm σ) (if (fiE chs (L.drop i) i).2 = 0 then .exit 0 else .ret) fun tm' _ => tm'.length = 24 ∧ ((fiE chs (L.drop i) i).2 ≠ 0 → XOpd.eval tm' (.t 4) = .int .i64 (fiE chs (L.drop i) i).1 ∧ XOpd.eval tm' (.t 5) = .int .i64 (fiE chs (L.drop i) i).2)
  | 0, i, hk, tm, σ, hl, h1, h9, h10, h11 => by
    have hi : i = L.length := by omega
    subst hi
    rw [Run_loop]
    simp [xf119l0, hl, h1, h10, h11, fiE]
  | k + 1, i, hk, tm, σ, hl, h1, h9, h10, h11 => by
    have hi : i < L.length := by omega
    have hd : L.drop i = L[i] :: L.drop (i + 1) := List.drop_eq_getElem_cons hi
    have hw : IntKind.i64.wrap ((i : Int) + 1) = ((i + 1 : Nat) : Int) := by rw [wrap_i64] <;> omega
    have h9' : XOpd.eval tm (.t 9) = .list 1 (ints L) none := by rw [h9]; exact hv.ne (by intro e; simp [e] at hi)
    have u := w96 hX
    rw [Run_loop, hd]
    by_cases he : chs L[i] = 0
    · have ih := loop119 L hv hn k (i + 1) (by omega)
      simp only [fiE, he, if_true]
      simp [xf119l0, hl, h1, h9', h10, h11, hi, he, hw, u, ints, xload, AVal.cells]
      exact ih _ _ (by simp [hl]) (by simp [hl, h1]) (by simp [hl, h9]) (by simp [hl, h10]) (by simp [hl])
    · simp only [fiE, he, if_false]
      simp [xf119l0, hl, h1, h9', h10, h11, hi, he, u, ints, xload, AVal.cells]
theorem w119 {L : List Int} {v : AVal} (h : IntV L v) (hn : L.length ≤ 1000000000) (σ : Store) : Run X (.call 119) [v, .fn 96 [] []] σ = some (.ret, [.tup [.int .i64 (fiE chs L 0).1, .int .i64 (fiE chs L 0).2]], σ) := by
  refine call2 (a := v) (b := .fn 96 [] []) (v := .tup [.int .i64 (fiE chs L 0).1, .int .i64 (fiE chs L 0).2]) hX.h119 (by rw [h.free.2]; exact h.free.1) rfl (by decide) (fun tm hl h0 h1 => ?_) rfl σ
  rw [h.free.2] at h0
  simp only [AVal.strip, stripL] at h1
  replace hl : tm.length = 24 := hl
  obtain ⟨hln, hdn⟩ := h.len
  have hL := fun tm σ h1 h2 h3 h4 h5 => out_of (loop119 hX L h hn L.length 0 (by omega) tm σ h1 h2 h3 h4 h5)
  simp only [List.drop_zero] at hL
  unfold Gives
  by_cases he : (fiE chs L 0).2 = 0
  · have e1 : (fiE chs L 0).1 = 0 := fiE_zero he
    simp only [he, if_true] at hL
    simp (maxDischargeDepth := 9) [xf119, hl, h0, h1, hL, he, e1, hln, hdn, xresult, xrets, xret_t]
  · simp only [he, if_false] at hL
    simp (maxDischargeDepth := 9) [xf119, hl, h0, h1, hL, he, hln, hdn, xresult, xrets, xret_t]
theorem w88 {L : List Int} {v : AVal} (h : IntV L v) (hn : L.length ≤ 1000000000) (σ : Store) : Run X (.call 88) [v, .fn 96 [] []] σ = some (.ret, [.int .i64 (fiE chs L 0).2], σ) := by
  refine call2 (a := v) (b := .fn 96 [] []) (v := .int .i64 (fiE chs L 0).2) hX.h88 (by rw [h.free.2]; exact h.free.1) rfl (by decide) (fun tm hl h0 h1 => ?_) rfl σ
  rw [h.free.2] at h0
  simp only [AVal.strip, stripL] at h1
  replace hl : tm.length = 14 := hl
  unfold Gives
  simp [xf88, hl, h0, h1, w119 hX h hn]
end
end Go.Proofs.Ytjbegiaceekgcaa.Eng

/-
  SEQUENCE: halls: rules.
-/
namespace Go.Proofs.Ytjbegiaceekgcaa.Eng
set_option linter.unusedSimpArgs false
set_option linter.unusedVariables false
section
variable {X : FuncId → Option XFunc} (hX : SqLCode X)
include hX
theorem loop92 (R : List Hr) {v : AVal} (hv : HrsV R v) (hn : R.length ≤ 1000000000) : ∀ (k i : Nat), i + k = R.length → ∀ (tm : List AVal) (σ : Store), tm.length = 24 → XOpd.eval tm (.t 1) = .fn 93 [] [] → XOpd.eval tm (.t 9) = v → XOpd.eval tm (.t 10) = .int .i64 R.length → XOpd.eval tm (.t 11) = .int .i64 i →
    Ends (Run X (.code (.loop xf92l0)) tm σ) (if (fiE Hr.e (R.drop i) i).2 = 0 then .exit 0 else .ret) fun tm' _ => tm'.length = 24 ∧ ((fiE Hr.e (R.drop i) i).2 ≠ 0 → XOpd.eval tm' (.t 4) = .int .i64 (fiE Hr.e (R.drop i) i).1 ∧ XOpd.eval tm' (.t 5) = .int .i64 (fiE Hr.e (R.drop i) i).2)
  | 0, i, hk, tm, σ, hl, h1, h9, h10, h11 => by
    have hi : i = R.length := by omega
    subst hi
    rw [Run_loop]
    simp [xf92l0, hl, h1, h10, h11, fiE]
  | k + 1, i, hk, tm, σ, hl, h1, h9, h10, h11 => by
    have hi : i < R.length := by omega
    have hd : R.drop i = R[i] :: R.drop (i + 1) := List.drop_eq_getElem_cons hi
    have hw : IntKind.i64.wrap ((i : Int) + 1) = ((i + 1 : Nat) : Int) := by rw [wrap_i64] <;> omega
    have h9' : XOpd.eval tm (.t 9) = .list 3 (hrs R) none := by rw [h9]; exact hv.ne (by intro e; simp [e] at hi)
    have u := w93 hX
    rw [Run_loop, hd]
    by_cases he : R[i].e = 0
    · have ih := loop92 R hv hn k (i + 1) (by omega)
      simp only [fiE, he, if_true]
      simp [xf92l0, hl, h1, h9', h10, h11, hi, he, hw, u, hrs, Hr.enc, xload, AVal.cells, put_next, new_next, Store.get_new, Store.get_put, put_get, setR, only_get, merge_get', only_next, merge_next, upTo_self, upTo_one, merge_only, touch, wrote, isIn, okRec, hits, capsOf, xcaps, stripL, AVal.strip, freeL, AVal.free, fillR, chunks, mkV]
      exact ih _ _ (by simp [hl]) (by simp [hl, h1]) (by simp [hl, h9]) (by simp [hl, h10]) (by simp [hl])
    · simp only [fiE, he, if_false]
      simp [xf92l0, hl, h1, h9', h10, h11, hi, he, u, hrs, Hr.enc, xload, AVal.cells, put_next, new_next, Store.get_new, Store.get_put, put_get, setR, only_get, merge_get', only_next, merge_next, upTo_self, upTo_one, merge_only, touch, wrote, isIn, okRec, hits, capsOf, xcaps, stripL, AVal.strip, freeL, AVal.free, fillR, chunks, mkV]
theorem w92 {R : List Hr} {v : AVal} (h : HrsV R v) (hn : R.length ≤ 1000000000) (σ : Store) : Run X (.call 92) [v, .fn 93 [] []] σ = some (.ret, [.tup [.int .i64 (fiE Hr.e R 0).1, .int .i64 (fiE Hr.e R 0).2]], σ) := by
  refine call2 (a := v) (b := .fn 93 [] []) (v := .tup [.int .i64 (fiE Hr.e R 0).1, .int .i64 (fiE Hr.e R 0).2]) hX.h92 (by rw [h.free.2]; exact h.free.1) rfl (by decide) (fun tm hl h0 h1 => ?_) rfl σ
  rw [h.free.2] at h0
  simp only [AVal.strip, stripL] at h1
  replace hl : tm.length = 24 := hl
  obtain ⟨hln, hdn⟩ := h.len
  have hL := fun tm σ h1 h2 h3 h4 h5 => out_of (loop92 hX R h hn R.length 0 (by omega) tm σ h1 h2 h3 h4 h5)
  simp only [List.drop_zero] at hL
  unfold Gives
  by_cases he : (fiE Hr.e R 0).2 = 0
  · have e1 : (fiE Hr.e R 0).1 = 0 := fiE_zero he
    simp only [he, if_true] at hL
    simp (maxDischargeDepth := 9) [xf92, hl, h0, h1, hL, he, e1, hln, hdn, xresult, xrets, xret_t]
  · simp only [he, if_false] at hL
    simp (maxDischargeDepth := 9) [xf92, hl, h0, h1, hL, he, hln, hdn, xresult, xrets, xret_t]
set_option maxHeartbeats 4000000 in
theorem w38 {M : Int} {R : List Hr} {v : AVal} (h : HrsV R v) (hn : R.length ≤ 1000000000) (σ : Store) : Run X (.call 38) [.agg [.int .i64 M, v]] σ = some (.ret, [.tup [.int .i64 (hallE M R).1, .int .i64 (hallE M R).2]], σ) := by
  refine call1 (a := .agg [.int .i64 M, v]) (v := .tup [.int .i64 (hallE M R).1, .int .i64 (hallE M R).2]) hX.h38 (by simp [AVal.strip, stripL, AVal.free, freeL, h.free.1, h.free.2]) (by decide) (fun tm hl h0 => ?_) rfl σ
  simp only [AVal.strip, stripL, h.free.2] at h0
  replace hl : tm.length = 21 := hl
  have f1 := h.free.1
  have f2 := h.free.2
  have u1 := w91 hX h
  have u2 := w92 hX h hn
  have u3 := w90 hX
  have u4 := first2 hX
  unfold hallE
  unfold Gives
  generalize hE : firstNZ [if win M 1 6 then 0 else 2, if R.length ≤ 12 then 0 else 8] = E at *
  by_cases he : E = 0
  · simp [xf38, hl, h0, f1, f2, u1, u2, u3, u4, hE, he, xload, AVal.cells, xresult, xrets, xret_t, Store.empty, Store.new, Store.put, Store.get, look, putL, setR, Store.only, Store.merge, touch, wrote, upTo, isIn, okRec, hits, capsOf, xcaps, stripL, AVal.strip, freeL, AVal.free, fillR, chunks, mkV, List.filter]
  · simp [xf38, hl, h0, f1, f2, u1, u2, u3, u4, hE, he, xload, AVal.cells, xresult, xrets, xret_t, Store.empty, Store.new, Store.put, Store.get, look, putL, setR, Store.only, Store.merge, touch, wrote, upTo, isIn, okRec, hits, capsOf, xcaps, stripL, AVal.strip, freeL, AVal.free, fillR, chunks, mkV, List.filter]
theorem w94 {M : Int} {R : List Hr} {L : List Int} {v s : AVal} (h : HrsV R v) (hs : IntV L s) (hn : R.length ≤ 1000000000) (hm : L.length ≤ 1000000000) (σ : Store) : Run X (.call 94) [.agg [.int .i64 M, v], s] σ = some (.ret, [.int .i64 (stepsE M R L)], σ) := by
  refine call2 (a := .agg [.int .i64 M, v]) (b := s) (v := .int .i64 (stepsE M R L)) hX.h94 (by simp [AVal.strip, stripL, AVal.free, freeL, h.free.1, h.free.2]) (by rw [hs.free.2]; exact hs.free.1) (by decide) (fun tm hl h0 h1 => ?_) rfl σ
  simp only [AVal.strip, stripL, h.free.2] at h0
  rw [hs.free.2] at h1
  replace hl : tm.length = 23 := hl
  have f1 := h.free.1
  have f2 := h.free.2
  have g1 := hs.free.1
  have g2 := hs.free.2
  have u1 := w38 hX (M := M) h hn
  have u2 := w88 hX hs hm
  have u3 := w56 hX
  have u4 := first3 hX
  obtain ⟨hln, hdn⟩ := hs.len
  unfold stepsE
  unfold Gives
  by_cases c : (L.length : Int) = M
  · simp [xf94, hl, h0, h1, f1, f2, g1, g2, u1, u2, u3, u4, hln, hdn, c, xload, AVal.cells, Store.empty, Store.new, Store.put, Store.get, look, putL, setR, Store.only, Store.merge, touch, wrote, upTo, isIn, okRec, hits, capsOf, xcaps, stripL, AVal.strip, freeL, AVal.free, fillR, chunks, mkV, List.filter]
  · simp [xf94, hl, h0, h1, f1, f2, g1, g2, u1, u2, u3, u4, hln, hdn, c, xload, AVal.cells, Store.empty, Store.new, Store.put, Store.get, look, putL, setR, Store.only, Store.merge, touch, wrote, upTo, isIn, okRec, hits, capsOf, xcaps, stripL, AVal.strip, freeL, AVal.free, fillR, chunks, mkV, List.filter]
omit hX in
theorem loop129 (L : List Int) {v : AVal} (hv : IntV L v) (hn : L.length ≤ 1000000000) (m s : Int) : ∀ (k i : Nat), i + k = L.length → ∀ (tm : List AVal) (σ : Store), tm.length = 25 → XOpd.eval tm (.t 0) = .int .i64 m → XOpd.eval tm (.t 1) = .int .i64 s → XOpd.eval tm (.t 9) = v → XOpd.eval tm (.t 10) = .int .i64 L.length → XOpd.eval tm (.t 11) = .int .i64 i →
    Ends (Run X (.code (.loop xf129l0)) tm σ) (if oth m s (L.drop i) i then .ret else .exit 0) fun tm' _ => tm'.length = 25 ∧ (oth m s (L.drop i) i = true → XOpd.eval tm' (.t 6) = .bool true)
  | 0, i, hk, tm, σ, hl, h0, h1, h9, h10, h11 => by
    have hi : i = L.length := by omega
    subst hi
    rw [Run_loop]
    simp [xf129l0, hl, h0, h1, h10, h11, oth]
  | k + 1, i, hk, tm, σ, hl, h0, h1, h9, h10, h11 => by
    have hi : i < L.length := by omega
    have hd : L.drop i = L[i] :: L.drop (i + 1) := List.drop_eq_getElem_cons hi
    have hw : IntKind.i64.wrap ((i : Int) + 1) = ((i + 1 : Nat) : Int) := by rw [wrap_i64] <;> omega
    have h9' : XOpd.eval tm (.t 9) = .list 1 (ints L) none := by rw [h9]; exact hv.ne (by intro e; simp [e] at hi)
    have ih := loop129 L hv hn m s k (i + 1) (by omega)
    rw [Run_loop, hd]
    by_cases e1 : (i : Int) = m
    · have hc : ¬ ((i : Int) ≠ m ∧ L[i] = s) := fun h => h.1 e1
      simp only [oth, hc, if_false]
      subst e1
      simp [xf129l0, hl, h0, h1, h9', h10, h11, hi, hw, ints, xload, AVal.cells]
      exact ih _ _ (by simp [hl]) (by simp [hl, h0]) (by simp [hl, h1]) (by simp [hl, h9]) (by simp [hl, h10]) (by simp [hl])
    · by_cases e2 : L[i] = s
      · have hc : ((i : Int) ≠ m ∧ L[i] = s) := ⟨e1, e2⟩
        simp only [oth, hc, if_true]
        simp [xf129l0, hl, h0, h1, h9', h10, h11, hi, hw, e1, e2, ints, xload, AVal.cells]
      · have hc : ¬ ((i : Int) ≠ m ∧ L[i] = s) := fun h => e2 h.2
        simp only [oth, hc, if_false]
        simp [xf129l0, hl, h0, h1, h9', h10, h11, hi, hw, e1, e2, ints, xload, AVal.cells]
        exact ih _ _ (by simp [hl]) (by simp [hl, h0]) (by simp [hl, h1]) (by simp [hl, h9]) (by simp [hl, h10]) (by simp [hl])
theorem w129 {L : List Int} {v : AVal} (h : IntV L v) (hn : L.length ≤ 1000000000) (m s : Int) (σ : Store) : Run X (.call 129) [.int .i64 m, .int .i64 s, v] σ = some (.ret, [.bool (oth m s L 0)], σ) := by
  refine call3 (a := .int .i64 m) (b := .int .i64 s) (c := v) (v := .bool (oth m s L 0)) hX.h129 rfl rfl (by rw [h.free.2]; exact h.free.1) (by decide) (fun tm hl h0 h1 h2 => ?_) rfl σ
  rw [h.free.2] at h2
  simp only [AVal.strip, stripL] at h0 h1
  replace hl : tm.length = 25 := hl
  obtain ⟨hln, hdn⟩ := h.len
  have hL := fun tm σ h1 h2 h3 h4 h5 h6 => out_of (loop129 (X := X) L h hn m s L.length 0 (by omega) tm σ h1 h2 h3 h4 h5 h6)
  simp only [List.drop_zero] at hL
  unfold Gives
  cases he : oth m s L 0
  · simp only [he, Bool.false_eq_true, if_false] at hL
    simp (maxDischargeDepth := 9) [xf129, hl, h0, h1, h2, hL, he, hln, hdn]
  · simp only [he, if_true] at hL
    simp (maxDischargeDepth := 9) [xf129, hl, h0, h1, h2, hL, he, hln, hdn]
set_option maxHeartbeats 4000000 in
theorem w121 {L : List Int} {v : AVal} (h : IntV L v) (hn : L.length ≤ 1000000000) {m : Nat} (hm : m < L.length) (r : Hr) (σ : Store) : Run X (.call 121) [.int .i64 m, .agg [.int .i64 r.s, .int .i64 r.o, .int .i64 r.k], v] σ = some (.ret, [.bool (!brk L m r)], σ) := by
  refine call3 (a := .int .i64 m) (b := .agg [.int .i64 r.s, .int .i64 r.o, .int .i64 r.k]) (c := v) (v := .bool (!brk L m r)) hX.h121 rfl rfl (by rw [h.free.2]; exact h.free.1) (by decide) (fun tm hl h0 h1 h2 => ?_) rfl σ
  have hv : v = .list 1 (ints L) none := h.ne (by intro e; simp [e] at hm)
  have u := w129 hX h hn
  rw [hv] at u h2
  simp only [AVal.strip, stripL, freeL_strip (ints_fr L)] at h0 h1 h2
  replace hl : tm.length = 23 := hl
  have hd : L.getD m 0 = L[m] := by simp [hm]
  have fr := ints_fr L
  have fs := freeL_strip (ints_fr L)
  have gi : ∀ (hq : m < (ints L).length), (ints L)[m] = .int .i64 L[m] := fun hq => by simp [ints]
  have hm' : m < (ints L).length := by rw [ints_len]; exact hm
  unfold brk
  rw [hd]
  unfold Gives
  by_cases c1 : L[m] = r.s
  · by_cases c2 : r.k = 1
    · simp [xf121, hl, h0, h1, h2, u, hm, hm', gi, c1, c2, fr, fs, xload, AVal.cells, Store.empty, Store.new, Store.put, Store.get, look, putL, setR, Store.only, Store.merge, touch, wrote, upTo, isIn, okRec, hits, capsOf, xcaps, stripL, AVal.strip, freeL, AVal.free, fillR, chunks, mkV, List.filter]
    · simp [xf121, hl, h0, h1, h2, u, hm, hm', gi, c1, c2, fr, fs, xload, AVal.cells, Store.empty, Store.new, Store.put, Store.get, look, putL, setR, Store.only, Store.merge, touch, wrote, upTo, isIn, okRec, hits, capsOf, xcaps, stripL, AVal.strip, freeL, AVal.free, fillR, chunks, mkV, List.filter]
  · simp [xf121, hl, h0, h1, h2, u, hm, hm', gi, c1, fr, fs, xload, AVal.cells, Store.empty, Store.new, Store.put, Store.get, look, putL, setR, Store.only, Store.merge, touch, wrote, upTo, isIn, okRec, hits, capsOf, xcaps, stripL, AVal.strip, freeL, AVal.free, fillR, chunks, mkV, List.filter]
end
end Go.Proofs.Ytjbegiaceekgcaa.Eng

/-
  SEQUENCE: halls: the reference.
-/
namespace Go.Proofs.Ytjbegiaceekgcaa.Eng
set_option linter.unusedSimpArgs false
set_option linter.unusedVariables false
section
variable {X : FuncId → Option XFunc} (hX : SqLCode X)
include hX
theorem w37 {M : Int} {R : List Hr} {v s : AVal} (hv : HrsV R v) {L : List Int} (h : IntV L s) (σ : Store) : Run X (.call 37) [.agg [.int .i64 M, v], s] σ = some (.ret, [.bool (decide (R.length ≤ 14) && decide (L.length ≤ 8))], σ) := by
  refine call2 (a := .agg [.int .i64 M, v]) (b := s) (v := .bool (decide (R.length ≤ 14) && decide (L.length ≤ 8))) hX.h37 (by simp [AVal.strip, stripL, AVal.free, freeL, hv.free.1, hv.free.2]) (by rw [h.free.2]; exact h.free.1) (by decide) (fun tm hl h0 h1 => ?_) rfl σ
  simp only [AVal.strip, stripL, hv.free.2] at h0
  rw [h.free.2] at h1
  replace hl : tm.length = 14 := hl
  obtain ⟨hln, hdn⟩ := h.len
  obtain ⟨kln, kdn⟩ := hv.len
  unfold Gives
  by_cases c : R.length ≤ 14
  · have c' : (R.length : Int) ≤ 14 := by omega
    by_cases d : L.length ≤ 8
    · have d' : (L.length : Int) ≤ 8 := by omega
      simp [xf37, hl, h0, h1, hln, hdn, kln, kdn, c, c', d, d', xload, AVal.cells, Store.empty, Store.new, Store.put, Store.get, look, putL, setR, Store.only, Store.merge, touch, wrote, upTo, isIn, okRec, hits, capsOf, xcaps, stripL, AVal.strip, freeL, AVal.free, fillR, chunks, mkV, List.filter]
    · have d' : ¬ (L.length : Int) ≤ 8 := by omega
      simp [xf37, hl, h0, h1, hln, hdn, kln, kdn, c, c', d, d', xload, AVal.cells, Store.empty, Store.new, Store.put, Store.get, look, putL, setR, Store.only, Store.merge, touch, wrote, upTo, isIn, okRec, hits, capsOf, xcaps, stripL, AVal.strip, freeL, AVal.free, fillR, chunks, mkV, List.filter]
  · have c' : ¬ (R.length : Int) ≤ 14 := by omega
    simp [xf37, hl, h0, h1, hln, hdn, kln, kdn, c, c', xload, AVal.cells, Store.empty, Store.new, Store.put, Store.get, look, putL, setR, Store.only, Store.merge, touch, wrote, upTo, isIn, okRec, hits, capsOf, xcaps, stripL, AVal.strip, freeL, AVal.free, fillR, chunks, mkV, List.filter]
omit hX in
theorem hrs_ones (R : List Hr) : ones (hrs R) = true := by
  induction R with
  | nil => rfl
  | cons a l ih =>
    show ((a.enc.cells.all AVal.one) && ones (hrs l)) = true
    rw [ih]; rfl
theorem w39 {M : Int} {R : List Hr} {v : AVal} (hv : HrsV R v) (hn : R.length ≤ 1000000000) (σ : Store) : Run X (.call 39) [.agg [.int .i64 M, v]] σ = some (.ret, [.agg [.int .i64 M, .list 3 (hrs R) none]], σ) := by
  suffices hg : ∀ tm, tm.length = xf39.ntmps → XOpd.eval tm (.t 0) = (AVal.agg [.int .i64 M, v]).strip → ∃ t, Gives X xf39 tm (.agg [.int .i64 M, .list 3 (hrs R) t]) by
    have hE : ∀ tm, tm.length = xf39.ntmps → XOpd.eval tm (.t 0) = (AVal.agg [.int .i64 M, v]).strip → GivesE X xf39 tm (Told fun w => w = .agg [.int .i64 M, .list 3 (hrs R) none]) := fun tm hl h0 => by
      obtain ⟨t, ht⟩ := hg tm hl h0
      unfold GivesE givesE
      unfold Gives givesR at ht
      revert ht
      rcases Run X (.code xf39.body) tm Store.empty with _ | ⟨e, tm', τ⟩
      · intro h; exact h
      · cases e with
        | exit i => intro h; exact h
        | ret => intro h; simp only at h ⊢; rw [h]; exact ⟨by simp [AVal.strip, stripL, freeL_strip (hrs_fr R), AVal.free, freeL, hrs_fr], by simp [AVal.strip, stripL, freeL_strip (hrs_fr R)]⟩
        | normal => intro h; simp only at h ⊢; rw [h]; exact ⟨by simp [AVal.strip, stripL, freeL_strip (hrs_fr R), AVal.free, freeL, hrs_fr], by simp [AVal.strip, stripL, freeL_strip (hrs_fr R)]⟩
    obtain ⟨w, hw, hr⟩ := call1E (X := X) (a := .agg [.int .i64 M, v]) hX.h39 (by simp [AVal.strip, stripL, AVal.free, freeL, hv.free.1, hv.free.2]) (by decide) hE
    rw [hr, hw]
  intro tm hl h0
  simp only [AVal.strip, stripL, hv.free.2] at h0
  replace hl : tm.length = 10 := hl
  rcases hv with rfl | ⟨rfl, rfl⟩
  · have ho := hrs_ones R
    have hln := hrs_len R
    generalize hM : hrs R = A at *
    cases A with
    | nil =>
      refine ⟨some 2, ?_⟩
      unfold Gives
      simp [xf39, hl, h0, xappend, ones, xload, AVal.cells, AVal.isSlice, AVal.one, xresult, xrets, xret_t, xret_cn, Store.empty, Store.new, Store.put, Store.get, look, putL, setR, Store.only, Store.merge, touch, wrote, upTo, isIn, okRec, hits, capsOf, xcaps, stripL, AVal.strip, freeL, AVal.free, fillR, chunks, mkV, List.filter]
    | cons a l =>
      refine ⟨some 2, ?_⟩
      have h1 : (a :: l).length * 24 ≤ 1000000000000 := by omega
      have h2 : (a :: l).length ≤ 1000000000000 := by omega
      simp only [List.length_cons] at h1 h2
      unfold Gives
      simp [xf39, hl, h0, xappend, ho, h1, h2, xload, AVal.cells, AVal.isSlice, AVal.one, xresult, xrets, xret_t, xret_cn, Store.empty, Store.new, Store.put, Store.get, look, putL, setR, Store.only, Store.merge, touch, wrote, upTo, isIn, okRec, hits, capsOf, xcaps, stripL, AVal.strip, freeL, AVal.free, fillR, chunks, mkV, List.filter]
  · refine ⟨some 2, ?_⟩
    unfold Gives
    simp [xf39, hl, h0, xappend, ones, hrs, xload, AVal.cells, AVal.isSlice, AVal.one, xresult, xrets, xret_t, xret_cn, Store.empty, Store.new, Store.put, Store.get, look, putL, setR, Store.only, Store.merge, touch, wrote, upTo, isIn, okRec, hits, capsOf, xcaps, stripL, AVal.strip, freeL, AVal.free, fillR, chunks, mkV, List.filter]
end
end Go.Proofs.Ytjbegiaceekgcaa.Eng

/-
  SEQUENCE: halls: the first rule that is broken.
-/
namespace Go.Proofs.Ytjbegiaceekgcaa.Eng
set_option linter.unusedSimpArgs false
set_option linter.unusedVariables false
def fnb (m : Nat) (s : AVal) : AVal := .fn 120 [] [.iptr [.int .i64 m] 0, .iptr [s] 0]
theorem fnb_free {m : Nat} {s : AVal} (h : s.free = true ∧ s.strip = s) : (fnb m s).free = true ∧ (fnb m s).strip = fnb m s := by
  simp [fnb, AVal.free, freeL, AVal.strip, stripL, h.1, h.2]
section
variable {X : FuncId → Option XFunc} (hX : SqLCode X)
include hX
theorem w120 {L : List Int} {s : AVal} (h : IntV L s) (hn : L.length ≤ 1000000000) {m : Nat} (hm : m < L.length) (r : Hr) (σ : Store) : Run X (.call 120) [.agg [.int .i64 r.s, .int .i64 r.o, .int .i64 r.k], .iptr [.int .i64 m] 0, .iptr [s] 0] σ = some (.ret, [.bool (brk L m r)], σ) := by
  refine call3 (a := .agg [.int .i64 r.s, .int .i64 r.o, .int .i64 r.k]) (b := .iptr [.int .i64 m] 0) (c := .iptr [s] 0) (v := .bool (brk L m r)) hX.h120 rfl rfl (by simp [AVal.strip, stripL, AVal.free, freeL, h.free.1, h.free.2]) (by decide) (fun tm hl h0 h1 h2 => ?_) rfl σ
  simp only [AVal.strip, stripL, h.free.2] at h0 h1 h2
  replace hl : tm.length = 10 := hl
  have f1 := h.free.1
  have f2 := h.free.2
  have u := fun σ => w121 hX h hn hm r σ
  unfold Gives
  simp [xf120, hl, h0, h1, h2, f1, f2, u, xload, AVal.cells, Store.empty, Store.new, Store.put, Store.get, look, putL, setR, Store.only, Store.merge, touch, wrote, upTo, isIn, okRec, hits, capsOf, xcaps, stripL, AVal.strip, freeL, AVal.free, fillR, chunks, mkV, List.filter]
theorem loop122 (R : List Hr) {v : AVal} (hv : HrsV R v) (hn : R.length ≤ 1000000000) {L : List Int} {s : AVal} (h : IntV L s) (hnl : L.length ≤ 1000000000) {m : Nat} (hm : m < L.length) : ∀ (k i : Nat), i + k = R.length → ∀ (tm : List AVal) (σ : Store), tm.length = 19 → XOpd.eval tm (.t 0) = v → XOpd.eval tm (.t 1) = fnb m s → XOpd.eval tm (.t 7) = .int .i64 R.length → XOpd.eval tm (.t 8) = .int .i64 i →
    Ends (Run X (.code (.loop xf122l0)) tm σ) (if fiB (brk L m) (R.drop i) i = none then .exit 0 else .ret) fun tm' _ => tm'.length = 19 ∧ ∀ j, fiB (brk L m) (R.drop i) i = some j → XOpd.eval tm' (.t 4) = .int .i64 (j : Nat)
  | 0, i, hk, tm, σ, hl, h0, h1, h7, h8 => by
    have hi : i = R.length := by omega
    subst hi
    rw [Run_loop]
    simp [xf122l0, hl, h0, h1, h7, h8, fiB]
  | k + 1, i, hk, tm, σ, hl, h0, h1, h7, h8 => by
    have hi : i < R.length := by omega
    have hd : R.drop i = R[i] :: R.drop (i + 1) := List.drop_eq_getElem_cons hi
    have hw : IntKind.i64.wrap ((i : Int) + 1) = ((i + 1 : Nat) : Int) := by rw [wrap_i64] <;> omega
    have h0' : XOpd.eval tm (.t 0) = .list 3 (hrs R) none := by rw [h0]; exact hv.ne (by intro e; simp [e] at hi)
    have h1' := h1
    unfold fnb at h1'
    have u := w120 hX h hnl hm
    rw [Run_loop, hd]
    cases he : brk L m R[i] with
    | false =>
      have ih := loop122 R hv hn h hnl hm k (i + 1) (by omega)
      simp only [fiB, he, Bool.false_eq_true, if_false]
      simp [xf122l0, hl, h0', h1', h7, h8, hi, he, hw, u, hrs, Hr.enc, xload, AVal.cells, put_next, new_next, Store.get_new, Store.get_put, put_get, setR, only_get, merge_get', only_next, merge_next, upTo_self, upTo_one, merge_only, touch, wrote, isIn, okRec, hits, capsOf, xcaps, stripL, AVal.strip, freeL, AVal.free, fillR, chunks, mkV]
      exact ih _ _ (by simp [hl]) (by simp [hl, h0]) (by simp [hl, h1]) (by simp [hl, h7]) (by simp [hl])
    | true =>
      simp only [fiB, he, if_true]
      simp [xf122l0, hl, h0', h1', h7, h8, hi, he, u, hrs, Hr.enc, xload, AVal.cells, put_next, new_next, Store.get_new, Store.get_put, put_get, setR, only_get, merge_get', only_next, merge_next, upTo_self, upTo_one, merge_only, touch, wrote, isIn, okRec, hits, capsOf, xcaps, stripL, AVal.strip, freeL, AVal.free, fillR, chunks, mkV]
theorem w122 {R : List Hr} {v : AVal} (hv : HrsV R v) (hn : R.length ≤ 1000000000) {L : List Int} {s : AVal} (h : IntV L s) (hnl : L.length ≤ 1000000000) {m : Nat} (hm : m < L.length) (σ : Store) :
    Run X (.call 122) [v, fnb m s] σ = some (.ret, [.int .i64 (match fiB (brk L m) R 0 with | none => -1 | some j => (j : Int))], σ) := by
  refine call2 (a := v) (b := fnb m s) (v := .int .i64 (match fiB (brk L m) R 0 with | none => -1 | some j => (j : Int))) hX.h122 (by rw [hv.free.2]; exact hv.free.1) (by rw [(fnb_free h.free).2]; exact (fnb_free h.free).1) (by decide) (fun tm hl h0 h1 => ?_) rfl σ
  rw [hv.free.2] at h0
  rw [(fnb_free h.free).2] at h1
  replace hl : tm.length = 19 := hl
  obtain ⟨hln, hdn⟩ := hv.len
  have hL := fun tm σ h1 h2 h3 h4 h5 => out_of (loop122 hX R hv hn h hnl hm R.length 0 (by omega) tm σ h1 h2 h3 h4 h5)
  simp only [List.drop_zero] at hL
  unfold Gives
  cases he : fiB (brk L m) R 0 with
  | none =>
    simp only [he, if_true] at hL
    simp (maxDischargeDepth := 9) [xf122, hl, h0, h1, hL, he, hln, hdn]
  | some j =>
    simp only [he, reduceCtorEq, if_false] at hL
    simp (maxDischargeDepth := 9) [xf122, hl, h0, h1, hL, he, hln, hdn]
end
end Go.Proofs.Ytjbegiaceekgcaa.Eng

/-
  SEQUENCE: halls: the first machine for which a rule is broken.
-/
namespace Go.Proofs.Ytjbegiaceekgcaa.Eng
set_option linter.unusedSimpArgs false
set_option linter.unusedVariables false
/-- What lies in the memory of brokenIn. -/
def M95 (M : Int) (v s : AVal) (σ : Store) : Prop := σ.get 0 = some (.cells [.int .i64 M, v]) ∧ (σ.get 1 = some (.cells [s]) ∨ σ.get 1 = some (.ro [s])) ∧ σ.get 2 = some (.cells [.int .i64 0, .int .i64 0]) ∧ ∃ N, σ.next = N + 3
section
variable {X : FuncId → Option XFunc} (hX : SqLCode X)
include hX
set_option maxHeartbeats 4000000 in
theorem round95 {M : Int} {R : List Hr} {v s : AVal} (hv : HrsV R v) (hn : R.length ≤ 1000000000) {L : List Int} (h : IntV L s) (hnl : L.length ≤ 1000000000) {i : Nat} (hi : i < L.length) (tm : List AVal) (σ : Store) (hl : tm.length = 26) (h2 : XOpd.eval tm (.t 2) = .ptr 0 0) (h3 : XOpd.eval tm (.t 3) = .ptr 1 0) (h4 : XOpd.eval tm (.t 4) = .ptr 2 0) (h10 : XOpd.eval tm (.t 10) = .int .i64 L.length) (h11 : XOpd.eval tm (.t 11) = .int .i64 i) (hm : M95 M v s σ) :
    (fiB (brk L i) R 0 = none → Ends (Run X (.code xf95l0) tm σ) .normal fun tm' σ' => tm'.length = 26 ∧ XOpd.eval tm' (.t 2) = .ptr 0 0 ∧ XOpd.eval tm' (.t 3) = .ptr 1 0 ∧ XOpd.eval tm' (.t 4) = .ptr 2 0 ∧ XOpd.eval tm' (.t 10) = .int .i64 L.length ∧ XOpd.eval tm' (.t 11) = .int .i64 ((i + 1 : Nat) : Int) ∧ M95 M v s σ') ∧
    ∀ j, fiB (brk L i) R 0 = some j → Ends (Run X (.code xf95l0) tm σ) .ret fun tm' σ' => tm'.length = 26 ∧ XOpd.eval tm' (.t 4) = .ptr 2 0 ∧ XOpd.eval tm' (.t 5) = .bool true ∧ σ'.get 2 = some (.cells [.int .i64 (i : Int), .int .i64 (j : Int)]) := by
  obtain ⟨g0, g1, g2, N, hN⟩ := hm
  have hw : IntKind.i64.wrap ((i : Int) + 1) = ((i + 1 : Nat) : Int) := by rw [wrap_i64] <;> omega
  have hii : (i : Int) < L.length := by omega
  have u := w122 hX hv hn h hnl hi
  unfold fnb at u
  have f1 := h.free.1
  constructor
  · intro he
    simp only [he] at u
    unfold M95
    rcases g1 with g1 | g1
    · simp [xf95l0, hl, h2, h3, h4, h10, h11, hii, hw, f1, u, g0, g1, g2, hN, xload, AVal.cells, put_next, new_next, Store.get_new, Store.get_put, put_get, setR, only_get, merge_get', only_next, merge_next, upTo_self, upTo_one, merge_only, touch, wrote, isIn, okRec, hits, capsOf, xcaps, stripL, AVal.strip, freeL, AVal.free, fillR, chunks, mkV]
    · simp [xf95l0, hl, h2, h3, h4, h10, h11, hii, hw, f1, u, g0, g1, g2, hN, xload, AVal.cells, put_next, new_next, Store.get_new, Store.get_put, put_get, setR, only_get, merge_get', only_next, merge_next, upTo_self, upTo_one, merge_only, touch, wrote, isIn, okRec, hits, capsOf, xcaps, stripL, AVal.strip, freeL, AVal.free, fillR, chunks, mkV]
  · intro j he
    simp only [he] at u
    have hj : (0 : Int) ≤ (j : Int) := by omega
    rcases g1 with g1 | g1
    · simp [xf95l0, hl, h2, h3, h4, h10, h11, hii, hw, f1, u, hj, g0, g1, g2, hN, xload, AVal.cells, put_next, new_next, Store.get_new, Store.get_put, put_get, setR, only_get, merge_get', only_next, merge_next, upTo_self, upTo_one, merge_only, touch, wrote, isIn, okRec, hits, capsOf, xcaps, stripL, AVal.strip, freeL, AVal.free, fillR, chunks, mkV]
    · simp [xf95l0, hl, h2, h3, h4, h10, h11, hii, hw, f1, u, hj, g0, g1, g2, hN, xload, AVal.cells, put_next, new_next, Store.get_new, Store.get_put, put_get, setR, only_get, merge_get', only_next, merge_next, upTo_self, upTo_one, merge_only, touch, wrote, isIn, okRec, hits, capsOf, xcaps, stripL, AVal.strip, freeL, AVal.free, fillR, chunks, mkV]
theorem loop95 {M : Int} {R : List Hr} {v s : AVal} (hv : HrsV R v) (hn : R.length ≤ 1000000000) {L : List Int} (h : IntV L s) (hnl : L.length ≤ 1000000000) : ∀ (k i : Nat), i + k = L.length → ∀ (tm : List AVal) (σ : Store), tm.length = 26 → XOpd.eval tm (.t 2) = .ptr 0 0 → XOpd.eval tm (.t 3) = .ptr 1 0 → XOpd.eval tm (.t 4) = .ptr 2 0 → XOpd.eval tm (.t 10) = .int .i64 L.length → XOpd.eval tm (.t 11) = .int .i64 i → M95 M v s σ →
    Ends (Run X (.code (.loop xf95l0)) tm σ) (if bkn R L k i = none then .exit 0 else .ret) fun tm' σ' => tm'.length = 26 ∧ XOpd.eval tm' (.t 4) = .ptr 2 0 ∧ (bkn R L k i = none → σ'.get 2 = some (.cells [.int .i64 0, .int .i64 0])) ∧ ∀ a b, bkn R L k i = some (a, b) → XOpd.eval tm' (.t 5) = .bool true ∧ σ'.get 2 = some (.cells [.int .i64 (a : Nat), .int .i64 (b : Nat)])
  | 0, i, hk, tm, σ, hl, h2, h3, h4, h10, h11, hm => by
    have hi : i = L.length := by omega
    subst hi
    obtain ⟨g0, g1, g2, N, hN⟩ := hm
    rw [Run_loop]
    simp [xf95l0, hl, h4, h10, h11, g2, bkn]
  | k + 1, i, hk, tm, σ, hl, h2, h3, h4, h10, h11, hm => by
    obtain ⟨r1, r2⟩ := round95 hX hv hn h hnl (show i < L.length by omega) tm σ hl h2 h3 h4 h10 h11 hm
    rw [Run_loop]
    cases he : fiB (brk L i) R 0 with
    | none =>
      obtain ⟨o1, p1, p2, p3, p4, p5, p6, p7⟩ := out_of (r1 he)
      simp only [bkn, he]
      rw [o1, thenC_normal]
      exact loop95 hv hn h hnl k (i + 1) (by omega) _ _ p1 p2 p3 p4 p5 p6 p7
    | some j =>
      obtain ⟨o1, p1, p2, p3, p4⟩ := out_of (r2 j he)
      simp only [bkn, he]
      rw [o1, thenC_ret]
      refine ⟨_, _, rfl, p1, p2, ?_, ?_⟩
      · intro e; cases e
      · intro a b e; cases e; exact ⟨p3, p4⟩
theorem w95 {M : Int} {R : List Hr} {v s : AVal} (hv : HrsV R v) (hn : R.length ≤ 1000000000) {L : List Int} (h : IntV L s) (hnl : L.length ≤ 1000000000) (σ : Store) : Run X (.call 95) [.agg [.int .i64 M, v], s] σ = some (.ret, [bkV (bkn R L L.length 0)], σ) := by
  have e2 : (bkV (bkn R L L.length 0)).strip.free = true := by
    cases bkn R L L.length 0 with
    | none => rfl
    | some ab => rfl
  have e1 : (bkV (bkn R L L.length 0)).strip = bkV (bkn R L L.length 0) := by
    cases bkn R L L.length 0 with
    | none => rfl
    | some ab => rfl
  suffices hg : ∀ tm, tm.length = xf95.ntmps → XOpd.eval tm (.t 0) = (AVal.agg [.int .i64 M, v]).strip → XOpd.eval tm (.t 1) = s.strip → Gives X xf95 tm (bkV (bkn R L L.length 0)) by
    have key := call2 (X := X) (a := .agg [.int .i64 M, v]) (b := s) (v := bkV (bkn R L L.length 0)) hX.h95 (by simp [AVal.strip, stripL, AVal.free, freeL, hv.free.1, hv.free.2]) (by rw [h.free.2]; exact h.free.1) (by decide) hg e2 σ
    rwa [e1] at key
  intro tm hl h0 h1
  simp only [AVal.strip, stripL, hv.free.2] at h0
  rw [h.free.2] at h1
  replace hl : tm.length = 26 := hl
  obtain ⟨hln, hdn⟩ := h.len
  have eP : Ends (Run X (.code (XCode.cutP 1 xf95.body)) tm Store.empty) .normal fun tm' σ' => tm'.length = 26 ∧ XOpd.eval tm' (.t 2) = .ptr 0 0 ∧ XOpd.eval tm' (.t 3) = .ptr 1 0 ∧ XOpd.eval tm' (.t 4) = .ptr 2 0 ∧ XOpd.eval tm' (.t 10) = .int .i64 L.length ∧ XOpd.eval tm' (.t 11) = .int .i64 (0 : Nat) ∧ M95 M v s σ' := by
    unfold M95
    rcases h with e | ⟨e, _⟩
    · rw [e] at h1 hln hdn ⊢
      simp [xf95, XCode.cutP, hl, h0, h1, hln, hdn, xload, AVal.cells, Store.empty, Store.new, Store.put, Store.get, look, putL, setR, Store.only, Store.merge, touch, wrote, upTo, isIn, okRec, hits, capsOf, xcaps, stripL, AVal.strip, freeL, AVal.free, fillR, chunks, mkV, List.filter]
    · rw [e] at h1 hln hdn ⊢
      simp [xf95, XCode.cutP, hl, h0, h1, hln, hdn, xload, AVal.cells, Store.empty, Store.new, Store.put, Store.get, look, putL, setR, Store.only, Store.merge, touch, wrote, upTo, isIn, okRec, hits, capsOf, xcaps, stripL, AVal.strip, freeL, AVal.free, fillR, chunks, mkV, List.filter]
  obtain ⟨oP, p1, p2, p3, p4, p5, p6, p7⟩ := out_of eP
  obtain ⟨q1, q2, q3, q4, q5⟩ := out_of (loop95 hX hv hn h hnl L.length 0 (by omega) _ _ p1 p2 p3 p4 p5 p6 p7)
  unfold Gives
  rw [Run_cut 1, oP, thenC_normal, show XCode.cutB 1 xf95.body = .block 0 (.loop xf95l0) from rfl, Run_block, q1]
  generalize outT X (.loop xf95l0) _ _ = tm3 at *
  generalize outS X (.loop xf95l0) _ _ = σ3 at *
  cases hb : bkn R L L.length 0 with
  | none =>
    have q4' := q4 hb
    simp [xf95, XCode.cutR, bkV, q2, q3, q4', xload, AVal.cells, xresult, xrets, xret_t, xret_cn, put_next, new_next, Store.get_new, Store.get_put, put_get, setR, only_get, merge_get', only_next, merge_next, upTo_self, upTo_one, merge_only, touch, wrote, isIn, okRec, hits, capsOf, xcaps, stripL, AVal.strip, freeL, AVal.free, fillR, chunks, mkV]
  | some ab =>
    obtain ⟨a, b⟩ := ab
    obtain ⟨q6, q7⟩ := q5 a b hb
    simp [xf95, XCode.cutR, bkV, q2, q3, q6, q7, xload, AVal.cells, xresult, xrets, xret_t, xret_cn, put_next, new_next, Store.get_new, Store.get_put, put_get, setR, only_get, merge_get', only_next, merge_next, upTo_self, upTo_one, merge_only, touch, wrote, isIn, okRec, hits, capsOf, xcaps, stripL, AVal.strip, freeL, AVal.free, fillR, chunks, mkV]
end
end Go.Proofs.Ytjbegiaceekgcaa.Eng

/-
  SEQUENCE: halls: what is broken; a machine enters a step.
-/
namespace Go.Proofs.Ytjbegiaceekgcaa.Eng
set_option linter.unusedSimpArgs false
set_option linter.unusedVariables false
/-- The first rule that is broken, of a hall with steps; or the error. -/
def brokenE (M : Int) (R : List Hr) (L : List Int) : AVal := if stepsE M R L = 0 then (match bkn R L L.length 0 with
  | none => .tup [.agg [.int .i64 0, .int .i64 0], .int .i64 12]
  | some (m, k) => .tup [.agg [.int .i64 (m : Nat), .int .i64 (k : Nat)], .int .i64 0]) else .tup [.agg [.int .i64 0, .int .i64 0], .int .i64 (stepsE M R L)]
theorem brokenE_flat (M : Int) (R : List Hr) (L : List Int) : (brokenE M R L).strip.free = true ∧ (brokenE M R L).strip = brokenE M R L := by
  unfold brokenE
  split
  · cases bkn R L L.length 0 with
    | none => exact ⟨rfl, rfl⟩
    | some ab => exact ⟨rfl, rfl⟩
  · exact ⟨rfl, rfl⟩
section
variable {X : FuncId → Option XFunc} (hX : SqLCode X)
include hX
set_option maxHeartbeats 4000000 in
theorem w40 {M : Int} {R : List Hr} {v s : AVal} (hv : HrsV R v) (hn : R.length ≤ 1000000000) {L : List Int} (h : IntV L s) (hnl : L.length ≤ 1000000000) (σ : Store) : Run X (.call 40) [.agg [.int .i64 M, v], s] σ = some (.ret, [brokenE M R L], σ) := by
  obtain ⟨e2, e1⟩ := brokenE_flat M R L
  suffices hg : ∀ tm, tm.length = xf40.ntmps → XOpd.eval tm (.t 0) = (AVal.agg [.int .i64 M, v]).strip → XOpd.eval tm (.t 1) = s.strip → Gives X xf40 tm (brokenE M R L) by
    have key := call2 (X := X) (a := .agg [.int .i64 M, v]) (b := s) (v := brokenE M R L) hX.h40 (by simp [AVal.strip, stripL, AVal.free, freeL, hv.free.1, hv.free.2]) (by rw [h.free.2]; exact h.free.1) (by decide) hg e2 σ
    rwa [e1] at key
  intro tm hl h0 h1
  simp only [AVal.strip, stripL, hv.free.2] at h0
  rw [h.free.2] at h1
  replace hl : tm.length = 25 := hl
  have f1 := hv.free.1
  have f2 := hv.free.2
  have g1 := h.free.1
  have g2 := h.free.2
  have u1 := w94 hX (M := M) hv h hn hnl
  have u2 := w95 hX (M := M) hv hn h hnl
  have u3 := w56 hX
  have hmv : ∀ σ, xmovf σ s.down = some (s, σ) := fun σ => by rcases h with rfl | ⟨rfl, _⟩ <;> rfl
  unfold brokenE
  unfold Gives
  by_cases he : stepsE M R L = 0
  · cases hb : bkn R L L.length 0 with
    | none =>
      rw [hb] at u2
      simp [xf40, hl, h0, h1, f1, f2, g1, g2, u1, u2, u3, he, hmv, bkV, xload, AVal.cells, xresult, xrets, xret_t, xret_cn, Store.empty, Store.new, Store.put, Store.get, look, putL, setR, Store.only, Store.merge, touch, wrote, upTo, isIn, okRec, hits, capsOf, xcaps, stripL, AVal.strip, freeL, AVal.free, fillR, chunks, mkV, List.filter]
    | some ab =>
      obtain ⟨a, b⟩ := ab
      rw [hb] at u2
      simp [xf40, hl, h0, h1, f1, f2, g1, g2, u1, u2, u3, he, hmv, bkV, xload, AVal.cells, xresult, xrets, xret_t, xret_cn, Store.empty, Store.new, Store.put, Store.get, look, putL, setR, Store.only, Store.merge, touch, wrote, upTo, isIn, okRec, hits, capsOf, xcaps, stripL, AVal.strip, freeL, AVal.free, fillR, chunks, mkV, List.filter]
  · simp [xf40, hl, h0, h1, f1, f2, g1, g2, u1, u2, u3, he, xload, AVal.cells, xresult, xrets, xret_t, xret_cn, Store.empty, Store.new, Store.put, Store.get, look, putL, setR, Store.only, Store.merge, touch, wrote, upTo, isIn, okRec, hits, capsOf, xcaps, stripL, AVal.strip, freeL, AVal.free, fillR, chunks, mkV, List.filter]
theorem clone97 {L : List Int} (h0 : L ≠ []) (hn : L.length ≤ 1000000000) (σ : Store) :
    ∃ n τ, Run X (.callK 97) [.list 1 (ints L) none] σ = some (.ret, [.vlist 3 1 n L.length], τ) ∧ σ.next ≤ n ∧ n < τ.next ∧ τ.get n = some (.cells (ints L)) ∧ (∀ m, m < σ.next → τ.get m = σ.get m) := by
  obtain ⟨N, hN⟩ : ∃ N, σ.next = N := ⟨_, rfl⟩
  have hk : (σ.new (.tok 3 1 0)).get N = some (.tok 3 1 0) := by rw [Store.get_new, hN, Mem.put_self]
  have hap := apV h0 hn hk
  have e : Ends (Run X (.code xf97.body) (frame [.list 1 (ints L) none] 8) σ) .ret fun tm' σ' => tm'.length = 8 ∧ XOpd.eval tm' (.t 2) = .vlist 3 1 (N + 1) L.length ∧ σ' = ((σ.new (.tok 3 1 0)).put N .gone).new (.cells (ints L)) := by
    have hl : (frame [.list 1 (ints L) none] 8).length = 8 := rfl
    have h0 := frame_0 (.list 1 (ints L) none) [] 8
    have nx : (σ.new (.tok 3 1 0)).next = N + 1 := by show σ.next + 1 = _; rw [hN]
    rw [nx] at hap
    generalize frame [.list 1 (ints L) none] 8 = tm at *
    simp [xf97, hl, h0, hN, hap, fillR, chunks]
  obtain ⟨o1, p1, p2, p3⟩ := out_of e
  generalize outT X xf97.body _ _ = tm3 at *
  generalize outS X xf97.body _ _ = σ3 at *
  refine ⟨N + 1, _, Run_callK hX.h97 (by simp) o1 (by simp [xf97, xresult_one, xret_t, p2]), by omega, ?_, ?_, fun m hm => ?_⟩
  · rw [gc_all, p3]; show N + 1 < σ.next + 1 + 1; omega
  · rw [gc_all, p3, Store.get_new]
    have : ((σ.new (.tok 3 1 0)).put N .gone).next = N + 1 := by show σ.next + 1 = _; rw [hN]
    rw [this, Mem.put_self]
  · rw [gc_all, p3, Store.get_new, Mem.put_ne _ (by show σ.next + 1 ≠ m; omega), Store.get_put, Mem.put_ne _ (by omega), Store.get_new, Mem.put_ne _ (by omega)]
end
end Go.Proofs.Ytjbegiaceekgcaa.Eng

/-
  SEQUENCE: halls: the reference's checks.
-/
namespace Go.Proofs.Ytjbegiaceekgcaa.Eng
set_option linter.unusedSimpArgs false
set_option linter.unusedVariables false
section
variable {X : FuncId → Option XFunc} (hX : SqLCode X)
include hX
theorem w33 {L : List Int} {s : AVal} (h : IntV L s) (hn : L.length ≤ 1000000000) (σ : Store) : Run X (.call 33) [s] σ = some (.ret, [.list 1 (ints L) none], σ) := by
  refine call1S (a := s) (y := .list 1 (ints L) none) hX.h33 (by rw [h.free.2]; exact h.free.1) (by decide) (fun tm hl h0 => ?_) σ
  rw [h.free.2] at h0
  replace hl : tm.length = 6 := hl
  unfold Seals
  by_cases hne : L = []
  · subst hne
    rcases h with e | ⟨e, _⟩
    · rw [e] at h0
      simp [xf33, hl, h0, xappendV, xappendW, ints, ones, AVal.isSlice, sealsR, sealsO, sealR, xresult_one, xret_t, Store.empty, Store.new, Store.put, Store.get, look, putL, setR, Store.only, Store.merge, touch, wrote, upTo, isIn, okRec, hits, capsOf, xcaps, stripL, AVal.strip, freeL, AVal.free, fillR, chunks, mkV, List.filter]
    · rw [e] at h0
      simp [xf33, hl, h0, xappendV, xappendW, ints, ones, AVal.isSlice, sealsR, sealsO, sealR, xresult_one, xret_t, Store.empty, Store.new, Store.put, Store.get, look, putL, setR, Store.only, Store.merge, touch, wrote, upTo, isIn, okRec, hits, capsOf, xcaps, stripL, AVal.strip, freeL, AVal.free, fillR, chunks, mkV, List.filter]
  · rw [h.ne hne] at h0
    have hap := apV hne hn (k := 0) (σ := ⟨[(0, .tok 3 1 0)], 1⟩) rfl
    have hse : sealR ⟨[(0, .gone), (1, .cells (ints L))], 2⟩ (.vlist 3 1 1 L.length) = some (.list 1 (ints L) none) := sealR_vints rfl
    simp only [Store.put, Store.new, putL] at hap
    simp at hap
    simp [xf33, hl, h0, hap, hse, fillR, chunks, sealsR, sealsO, xresult_one, xret_t, Store.empty, Store.new, Store.put, putL]
theorem loop42 (R : List Hr) {M : Int} {v : AVal} (hv : HrsV R v) (hn : R.length ≤ 1000000000) : ∀ (k i : Nat), i + k = R.length → ∀ (tm : List AVal) (σ : Store), tm.length = 42 → XOpd.eval tm (.t 1) = .ptr 0 0 → XOpd.eval tm (.t 4) = .int .i64 i → σ.get 0 = some (.cells [.int .i64 M, v]) → (∃ N, σ.next = N + 1) →
    Ends (Run X (.code (.loop xf42l0)) tm σ) (if (fiE Hr.e (R.drop i) i).2 = 0 then .exit 0 else .ret) fun tm' _ => tm'.length = 42 ∧ ((fiE Hr.e (R.drop i) i).2 ≠ 0 → XOpd.eval tm' (.t 2) = .int .i64 (fiE Hr.e (R.drop i) i).1 ∧ XOpd.eval tm' (.t 3) = .int .i64 (fiE Hr.e (R.drop i) i).2)
  | 0, i, hk, tm, σ, hl, h1, h4, g0, ⟨N, hN⟩ => by
    have hi : i = R.length := by omega
    subst hi
    obtain ⟨kln, kdn⟩ := hv.len
    rw [Run_loop]
    simp [xf42l0, hl, h1, h4, g0, kln, kdn, fiE, xload]
  | k + 1, i, hk, tm, σ, hl, h1, h4, g0, ⟨N, hN⟩ => by
    have hi : i < R.length := by omega
    have hii : (i : Int) < R.length := by omega
    have hd : R.drop i = R[i] :: R.drop (i + 1) := List.drop_eq_getElem_cons hi
    have hw : IntKind.i64.wrap ((i : Int) + 1) = ((i + 1 : Nat) : Int) := by rw [wrap_i64] <;> omega
    have hv' : v = .list 3 (hrs R) none := hv.ne (by intro e; simp [e] at hi)
    have g0' := g0
    rw [hv'] at g0'
    have u := w98 hX
    have u2 := w45 hX
    have gi : ∀ (hq : i < (hrs R).length), (hrs R)[i] = .agg [.int .i64 R[i].s, .int .i64 R[i].o, .int .i64 R[i].k] := fun hq => by simp [hrs, Hr.enc]
    have hi' : i < (hrs R).length := by rw [hrs_len]; exact hi
    have hln := hrs_len R
    rw [Run_loop, hd]
    have ih := loop42 R (M := M) hv hn k (i + 1) (by omega)
    generalize hA : hrs R = A at *
    cases c1 : win R[i].s 0 9 with
    | false =>
      have he : R[i].e = 6 := by simp [Hr.e, firstNZ, chs, c1]
      simp only [fiE, he]
      simp [xf42l0, hl, h1, h4, hi, hii, hi', hln, gi, u, u2, c1, g0', hN, xload, xlen, AVal.cells, put_next, new_next, Store.get_new, Store.get_put, put_get, setR, only_get, merge_get', only_next, merge_next, upTo_self, upTo_one, merge_only, touch, wrote, isIn, okRec, hits, capsOf, xcaps, stripL, AVal.strip, freeL, AVal.free, fillR, chunks, mkV]
    | true =>
      cases c2 : win R[i].o 0 9 with
      | false =>
        have he : R[i].e = 6 := by simp [Hr.e, firstNZ, chs, c1, c2]
        simp only [fiE, he]
        simp [xf42l0, hl, h1, h4, hi, hii, hi', hln, gi, u, u2, c1, c2, g0', hN, xload, xlen, AVal.cells, put_next, new_next, Store.get_new, Store.get_put, put_get, setR, only_get, merge_get', only_next, merge_next, upTo_self, upTo_one, merge_only, touch, wrote, isIn, okRec, hits, capsOf, xcaps, stripL, AVal.strip, freeL, AVal.free, fillR, chunks, mkV]
      | true =>
        cases c3 : win R[i].k 0 1 with
        | false =>
          have he : R[i].e = 15 := by simp [Hr.e, firstNZ, chs, c1, c2, c3]
          simp only [fiE, he]
          simp [xf42l0, hl, h1, h4, hi, hii, hi', hln, gi, u, u2, c1, c2, c3, g0', hN, xload, xlen, AVal.cells, put_next, new_next, Store.get_new, Store.get_put, put_get, setR, only_get, merge_get', only_next, merge_next, upTo_self, upTo_one, merge_only, touch, wrote, isIn, okRec, hits, capsOf, xcaps, stripL, AVal.strip, freeL, AVal.free, fillR, chunks, mkV]
        | true =>
          have he : R[i].e = 0 := by simp [Hr.e, firstNZ, chs, c1, c2, c3]
          simp only [fiE, he, if_true]
          have key : Ends (Run X (.code xf42l0) tm σ) .normal fun tm' σ' => tm'.length = 42 ∧ XOpd.eval tm' (.t 1) = .ptr 0 0 ∧ XOpd.eval tm' (.t 4) = .int .i64 ((i + 1 : Nat) : Int) ∧ σ'.get 0 = some (.cells [.int .i64 M, v]) ∧ ∃ N, σ'.next = N + 1 := by
            rw [hv']
            simp [xf42l0, hl, h1, h4, hi, hii, hi', hln, hw, gi, u, u2, c1, c2, c3, g0', hN, xload, xlen, AVal.cells, put_next, new_next, Store.get_new, Store.get_put, put_get, setR, only_get, merge_get', only_next, merge_next, upTo_self, upTo_one, merge_only, touch, wrote, isIn, okRec, hits, capsOf, xcaps, stripL, AVal.strip, freeL, AVal.free, fillR, chunks, mkV]
          obtain ⟨o1, p1, p2, p3, p4, p5⟩ := out_of key
          rw [o1, thenC_normal]
          exact ih _ _ p1 p2 p3 p4 p5
theorem w42 {M : Int} {R : List Hr} {v : AVal} (hv : HrsV R v) (hn : R.length ≤ 1000000000) (σ : Store) : Run X (.call 42) [.agg [.int .i64 M, v]] σ = some (.ret, [.tup [.int .i64 (hallE M R).1, .int .i64 (hallE M R).2]], σ) := by
  refine call1 (a := .agg [.int .i64 M, v]) (v := .tup [.int .i64 (hallE M R).1, .int .i64 (hallE M R).2]) hX.h42 (by simp [AVal.strip, stripL, AVal.free, freeL, hv.free.1, hv.free.2]) (by decide) (fun tm hl h0 => ?_) rfl σ
  simp only [AVal.strip, stripL, hv.free.2] at h0
  replace hl : tm.length = 42 := hl
  have f1 := hv.free.1
  have f2 := hv.free.2
  obtain ⟨kln, kdn⟩ := hv.len
  have u := w45 hX
  unfold hallE
  unfold Gives
  cases c1 : win M 1 6 with
  | false =>
    have hE : firstNZ [if false = true then 0 else 2, if R.length ≤ 12 then 0 else 8] = 2 := by simp [firstNZ]
    simp only [hE]
    simp [xf42, hl, h0, u, c1, xload, AVal.cells, xresult, xrets, xret_t, Store.empty, Store.new, Store.put, Store.get, look, putL, setR, Store.only, Store.merge, touch, wrote, upTo, isIn, okRec, hits, capsOf, xcaps, stripL, AVal.strip, freeL, AVal.free, fillR, chunks, mkV, List.filter]
  | true =>
    by_cases c2 : R.length ≤ 12
    · have c2' : ¬ (12 : Int) < R.length := by omega
      have hE : firstNZ [if true = true then 0 else 2, if R.length ≤ 12 then 0 else 8] = 0 := by simp [firstNZ, c2]
      simp only [hE, if_true]
      have hL := fun tm σ h1 h2 h3 h4 h5 => out_of (loop42 hX R (M := M) hv hn R.length 0 (by omega) tm σ h1 h2 h3 h4 h5)
      simp only [List.drop_zero] at hL
      have eP : Ends (Run X (.code (XCode.cutP 3 xf42.body)) tm Store.empty) .normal fun tm' σ' => tm'.length = 42 ∧ XOpd.eval tm' (.t 1) = .ptr 0 0 ∧ XOpd.eval tm' (.t 4) = .int .i64 ((0 : Nat) : Int) ∧ σ'.get 0 = some (.cells [.int .i64 M, v]) ∧ ∃ N, σ'.next = N + 1 := by
        simp [xf42, XCode.cutP, hl, h0, u, c1, c2', kln, kdn, xload, AVal.cells, Store.empty, Store.new, Store.put, Store.get, look, putL, setR, Store.only, Store.merge, touch, wrote, upTo, isIn, okRec, hits, capsOf, xcaps, stripL, AVal.strip, freeL, AVal.free, fillR, chunks, mkV, List.filter]
      obtain ⟨o1, p1, p2, p3, p4, p5⟩ := out_of eP
      obtain ⟨q1, q2, q3⟩ := hL _ _ p1 p2 p3 p4 p5
      rw [Run_cut 3, o1, thenC_normal, show XCode.cutB 3 xf42.body = .block 0 (.loop xf42l0) from rfl, Run_block, q1]
      generalize outT X (.loop xf42l0) _ _ = tm3 at *
      generalize outS X (.loop xf42l0) _ _ = σ3 at *
      by_cases he : (fiE Hr.e R 0).2 = 0
      · have e1 : (fiE Hr.e R 0).1 = 0 := fiE_zero he
        simp [xf42, XCode.cutR, q2, he, e1, c2, firstNZ, xresult, xrets, xret_t]
      · obtain ⟨q4, q5⟩ := q3 he
        simp [xf42, XCode.cutR, q2, he, q4, q5, c2, firstNZ, xresult, xrets, xret_t]
    · have c2' : (12 : Int) < R.length := by omega
      simp [xf42, hl, h0, u, c1, c2, c2', kln, kdn, firstNZ, xload, AVal.cells, xresult, xrets, xret_t, Store.empty, Store.new, Store.put, Store.get, look, putL, setR, Store.only, Store.merge, touch, wrote, upTo, isIn, okRec, hits, capsOf, xcaps, stripL, AVal.strip, freeL, AVal.free, fillR, chunks, mkV, List.filter]
theorem loop43 (L : List Int) {s : AVal} (hs : IntV L s) (hn : L.length ≤ 1000000000) : ∀ (k i : Nat), i + k = L.length → ∀ (tm : List AVal) (σ : Store), tm.length = 23 → XOpd.eval tm (.t 1) = s → XOpd.eval tm (.t 5) = .int .i64 i →
    Ends (Run X (.code (.loop xf43l0)) tm σ) (if (fiE chs (L.drop i) i).2 = 0 then .exit 0 else .ret) fun tm' _ => tm'.length = 23 ∧ ((fiE chs (L.drop i) i).2 ≠ 0 → XOpd.eval tm' (.t 4) = .int .i64 (fiE chs (L.drop i) i).2)
  | 0, i, hk, tm, σ, hl, h1, h5 => by
    have hi : i = L.length := by omega
    subst hi
    obtain ⟨kln, kdn⟩ := hs.len
    rw [Run_loop]
    simp [xf43l0, hl, h1, h5, kln, kdn, fiE]
  | k + 1, i, hk, tm, σ, hl, h1, h5 => by
    have hi : i < L.length := by omega
    have hd : L.drop i = L[i] :: L.drop (i + 1) := List.drop_eq_getElem_cons hi
    have hw : IntKind.i64.wrap ((i : Int) + 1) = ((i + 1 : Nat) : Int) := by rw [wrap_i64] <;> omega
    have h1' : XOpd.eval tm (.t 1) = .list 1 (ints L) none := by rw [h1]; exact hs.ne (by intro e; simp [e] at hi)
    have u := w98 hX
    have ih := loop43 L hs hn k (i + 1) (by omega)
    rw [Run_loop, hd]
    cases c : win L[i] 0 9 with
    | true =>
      have he : chs L[i] = 0 := by simp [chs, c]
      simp only [fiE, he, if_true]
      simp [xf43l0, hl, h1', h5, hi, hw, u, c, ints, xload, xlen, AVal.cells]
      exact ih _ _ (by simp [hl]) (by simp [hl, h1]) (by simp [hl])
    | false =>
      have he : chs L[i] = 6 := by simp [chs, c]
      simp only [fiE, he]
      simp [xf43l0, hl, h1', h5, hi, hw, u, c, ints, xload, xlen, AVal.cells]
omit hX in
def sErr (M : Int) (L : List Int) : Int := if (L.length : Int) = M then (fiE chs L 0).2 else 10
theorem w43 {M : Int} {R : List Hr} {v s : AVal} (hv : HrsV R v) {L : List Int} (h : IntV L s) (hn : L.length ≤ 1000000000) (σ : Store) : Run X (.call 43) [.agg [.int .i64 M, v], s] σ = some (.ret, [.int .i64 (sErr M L)], σ) := by
  refine call2 (a := .agg [.int .i64 M, v]) (b := s) (v := .int .i64 (sErr M L)) hX.h43 (by simp [AVal.strip, stripL, AVal.free, freeL, hv.free.1, hv.free.2]) (by rw [h.free.2]; exact h.free.1) (by decide) (fun tm hl h0 h1 => ?_) rfl σ
  simp only [AVal.strip, stripL, hv.free.2] at h0
  rw [h.free.2] at h1
  replace hl : tm.length = 23 := hl
  obtain ⟨hln, hdn⟩ := h.len
  have hL := fun tm σ h1 h2 h3 => out_of (loop43 hX L h hn L.length 0 (by omega) tm σ h1 h2 h3)
  simp only [List.drop_zero] at hL
  unfold sErr
  unfold Gives
  by_cases c : (L.length : Int) = M
  · simp only [c, if_true]
    by_cases he : (fiE chs L 0).2 = 0
    · simp only [he, if_true] at hL
      simp (maxDischargeDepth := 9) [xf43, hl, h0, h1, hL, he, c, hln, hdn, xload, AVal.cells, Store.empty, Store.new, Store.put, Store.get, look, putL, setR, Store.only, Store.merge, touch, wrote, upTo, isIn, okRec, hits, capsOf, xcaps, stripL, AVal.strip, freeL, AVal.free, fillR, chunks, mkV, List.filter]
    · simp only [he, if_false] at hL
      simp (maxDischargeDepth := 9) [xf43, hl, h0, h1, hL, he, c, hln, hdn, xload, AVal.cells, Store.empty, Store.new, Store.put, Store.get, look, putL, setR, Store.only, Store.merge, touch, wrote, upTo, isIn, okRec, hits, capsOf, xcaps, stripL, AVal.strip, freeL, AVal.free, fillR, chunks, mkV, List.filter]
  · simp only [c, if_false]
    simp [xf43, hl, h0, h1, c, hln, hdn, xload, AVal.cells, Store.empty, Store.new, Store.put, Store.get, look, putL, setR, Store.only, Store.merge, touch, wrote, upTo, isIn, okRec, hits, capsOf, xcaps, stripL, AVal.strip, freeL, AVal.free, fillR, chunks, mkV, List.filter]
end
end Go.Proofs.Ytjbegiaceekgcaa.Eng

/-
  SEQUENCE: halls: the first broken rule, of the reference.
-/
namespace Go.Proofs.Ytjbegiaceekgcaa.Eng
set_option linter.unusedSimpArgs false
set_option linter.unusedVariables false
/-- What lies in the memory of Broken. -/
def M44 (M : Int) (v : AVal) (σ : Store) : Prop := σ.get 0 = some (.cells [.int .i64 M, v]) ∧ σ.get 1 = some (.cells [.int .i64 0, .int .i64 0]) ∧ ∃ N, σ.next = N + 2
section
variable {X : FuncId → Option XFunc} (hX : SqLCode X)
include hX
omit hX in
theorem loop99 (L : List Int) {v : AVal} (hv : IntV L v) (hn : L.length ≤ 1000000000) (m s : Int) : ∀ (k i : Nat), i + k = L.length → ∀ (tm : List AVal) (σ : Store), tm.length = 25 → XOpd.eval tm (.t 0) = v → XOpd.eval tm (.t 1) = .int .i64 m → XOpd.eval tm (.t 2) = .int .i64 s → XOpd.eval tm (.t 7) = .int .i64 i →
    Ends (Run X (.code (.loop xf99l0)) tm σ) (if oth m s (L.drop i) i then .ret else .exit 0) fun tm' _ => tm'.length = 25 ∧ (oth m s (L.drop i) i = true → XOpd.eval tm' (.t 6) = .bool true)
  | 0, i, hk, tm, σ, hl, h0, h1, h2, h7 => by
    have hi : i = L.length := by omega
    subst hi
    obtain ⟨kln, kdn⟩ := hv.len
    rw [Run_loop]
    simp [xf99l0, hl, h0, h1, h2, h7, kln, kdn, oth]
  | k + 1, i, hk, tm, σ, hl, h0, h1, h2, h7 => by
    have hi : i < L.length := by omega
    have hd : L.drop i = L[i] :: L.drop (i + 1) := List.drop_eq_getElem_cons hi
    have hw : IntKind.i64.wrap ((i : Int) + 1) = ((i + 1 : Nat) : Int) := by rw [wrap_i64] <;> omega
    have h0' : XOpd.eval tm (.t 0) = .list 1 (ints L) none := by rw [h0]; exact hv.ne (by intro e; simp [e] at hi)
    have ih := loop99 L hv hn m s k (i + 1) (by omega)
    rw [Run_loop, hd]
    by_cases e1 : (i : Int) = m
    · have hc : ¬ ((i : Int) ≠ m ∧ L[i] = s) := fun h => h.1 e1
      simp only [oth, hc, if_false]
      subst e1
      simp [xf99l0, hl, h0', h1, h2, h7, hi, hw, ints, xload, xlen, AVal.cells]
      exact ih _ _ (by simp [hl]) (by simp [hl, h0]) (by simp [hl, h1]) (by simp [hl, h2]) (by simp [hl])
    · by_cases e2 : L[i] = s
      · have hc : ((i : Int) ≠ m ∧ L[i] = s) := ⟨e1, e2⟩
        simp only [oth, hc, if_true]
        simp [xf99l0, hl, h0', h1, h2, h7, hi, hw, e1, e2, ints, xload, xlen, AVal.cells]
      · have hc : ¬ ((i : Int) ≠ m ∧ L[i] = s) := fun h => e2 h.2
        simp only [oth, hc, if_false]
        simp [xf99l0, hl, h0', h1, h2, h7, hi, hw, e1, e2, ints, xload, xlen, AVal.cells]
        exact ih _ _ (by simp [hl]) (by simp [hl, h0]) (by simp [hl, h1]) (by simp [hl, h2]) (by simp [hl])
theorem w99 {L : List Int} {v : AVal} (h : IntV L v) (hn : L.length ≤ 1000000000) (m s : Int) (σ : Store) : Run X (.call 99) [v, .int .i64 m, .int .i64 s] σ = some (.ret, [.bool (oth m s L 0)], σ) := by
  refine call3 (a := v) (b := .int .i64 m) (c := .int .i64 s) (v := .bool (oth m s L 0)) hX.h99 (by rw [h.free.2]; exact h.free.1) rfl rfl (by decide) (fun tm hl h0 h1 h2 => ?_) rfl σ
  rw [h.free.2] at h0
  simp only [AVal.strip, stripL] at h1 h2
  replace hl : tm.length = 25 := hl
  obtain ⟨hln, hdn⟩ := h.len
  have hL := fun tm σ h1 h2 h3 h4 h5 => out_of (loop99 (X := X) L h hn m s L.length 0 (by omega) tm σ h1 h2 h3 h4 h5)
  simp only [List.drop_zero] at hL
  unfold Gives
  cases he : oth m s L 0
  · simp only [he, Bool.false_eq_true, if_false] at hL
    simp (maxDischargeDepth := 9) [xf99, hl, h0, h1, h2, hL, he, hln, hdn]
  · simp only [he, if_true] at hL
    simp (maxDischargeDepth := 9) [xf99, hl, h0, h1, h2, hL, he, hln, hdn]
set_option maxHeartbeats 8000000 in
theorem round44 {M : Int} {R : List Hr} {v s : AVal} (hv : HrsV R v) (hn : R.length ≤ 1000000000) {L : List Int} (h : IntV L s) (hnl : L.length ≤ 1000000000) {m : Nat} (hm : m < L.length) {i : Nat} (hi : i < R.length) (tm : List AVal) (σ : Store) (hl : tm.length = 49) (h1 : XOpd.eval tm (.t 1) = s) (h2 : XOpd.eval tm (.t 2) = .ptr 0 0) (h4 : XOpd.eval tm (.t 4) = .ptr 1 0) (h6 : XOpd.eval tm (.t 6) = .int .i64 m) (h7 : XOpd.eval tm (.t 7) = .int .i64 i) (hM : M44 M v σ) :
    (brk L m R[i] = false → Ends (Run X (.code xf44l0) tm σ) .normal fun tm' σ' => tm'.length = 49 ∧ XOpd.eval tm' (.t 1) = s ∧ XOpd.eval tm' (.t 2) = .ptr 0 0 ∧ XOpd.eval tm' (.t 4) = .ptr 1 0 ∧ XOpd.eval tm' (.t 6) = .int .i64 m ∧ XOpd.eval tm' (.t 7) = .int .i64 ((i + 1 : Nat) : Int) ∧ M44 M v σ') ∧
    (brk L m R[i] = true → Ends (Run X (.code xf44l0) tm σ) .ret fun tm' σ' => tm'.length = 49 ∧ XOpd.eval tm' (.t 4) = .ptr 1 0 ∧ XOpd.eval tm' (.t 5) = .bool true ∧ σ'.get 1 = some (.cells [.int .i64 (m : Int), .int .i64 (i : Int)])) := by
  obtain ⟨g0, g1, N, hN⟩ := hM
  have hw : IntKind.i64.wrap ((i : Int) + 1) = ((i + 1 : Nat) : Int) := by rw [wrap_i64] <;> omega
  have hii : (i : Int) < R.length := by omega
  have hvv : v = .list 3 (hrs R) none := hv.ne (by intro e; simp [e] at hi)
  have hss : s = .list 1 (ints L) none := h.ne (by intro e; simp [e] at hm)
  have u := w99 hX h hnl
  have fr := ints_fr L
  have fs := freeL_strip fr
  have gi : ∀ (hq : i < (hrs R).length), (hrs R)[i] = .agg [.int .i64 R[i].s, .int .i64 R[i].o, .int .i64 R[i].k] := fun hq => by simp [hrs, Hr.enc]
  have gm : ∀ (hq : m < (ints L).length), (ints L)[m] = .int .i64 L[m] := fun hq => by simp [ints]
  have hi' : i < (hrs R).length := by rw [hrs_len]; exact hi
  have hm' : m < (ints L).length := by rw [ints_len]; exact hm
  have hln := hrs_len R
  have hlm := ints_len L
  have hd : L.getD m 0 = L[m] := by simp [hm]
  unfold brk
  rw [hd]
  rw [hvv] at g0 ⊢
  rw [hss] at h1 u ⊢
  unfold M44
  generalize hrs R = A at *
  generalize ints L = B at *
  by_cases c1 : L[m] = R[i].s
  · have c1' : R[i].s = L[m] := c1.symm
    cases c2 : oth m R[i].o L 0 <;> by_cases c3 : R[i].k = 1
    all_goals constructor
    all_goals intro hb
    all_goals first
      | (exfalso; simp [c1, c2, c3] at hb; done)
      | (clear hb; simp [xf44l0, hl, h1, h2, h4, h6, h7, hi, hii, hi', hm, hm', hln, hlm, gi, gm, hw, u, c1, c2, c3, fr, fs, g0, g1, hN, xload, xlen, AVal.cells, put_next, new_next, Store.get_new, Store.get_put, put_get, setR, only_get, merge_get', only_next, merge_next, upTo_self, upTo_one, merge_only, touch, wrote, isIn, okRec, hits, capsOf, xcaps, stripL, AVal.strip, freeL, AVal.free, fillR, chunks, mkV])
  · have c1' : ¬ R[i].s = L[m] := fun e => c1 e.symm
    constructor
    · intro hb
      clear hb; simp [xf44l0, hl, h1, h2, h4, h6, h7, hi, hii, hi', hm, hm', hln, hlm, gi, gm, hw, c1', fr, fs, g0, g1, hN, xload, xlen, AVal.cells, put_next, new_next, Store.get_new, Store.get_put, put_get, setR, only_get, merge_get', only_next, merge_next, upTo_self, upTo_one, merge_only, touch, wrote, isIn, okRec, hits, capsOf, xcaps, stripL, AVal.strip, freeL, AVal.free, fillR, chunks, mkV]
    · intro hb
      exfalso; simp [c1] at hb
end
end Go.Proofs.Ytjbegiaceekgcaa.Eng

/-
  SEQUENCE: halls: the first broken rule, of the reference, whole.
-/
namespace Go.Proofs.Ytjbegiaceekgcaa.Eng
set_option linter.unusedSimpArgs false
set_option linter.unusedVariables false
section
variable {X : FuncId → Option XFunc} (hX : SqLCode X)
include hX
theorem inner44 {M : Int} {R : List Hr} {v s : AVal} (hv : HrsV R v) (hn : R.length ≤ 1000000000) {L : List Int} (h : IntV L s) (hnl : L.length ≤ 1000000000) {m : Nat} (hm : m < L.length) : ∀ (k i : Nat), i + k = R.length → ∀ (tm : List AVal) (σ : Store), tm.length = 49 → XOpd.eval tm (.t 1) = s → XOpd.eval tm (.t 2) = .ptr 0 0 → XOpd.eval tm (.t 4) = .ptr 1 0 → XOpd.eval tm (.t 6) = .int .i64 m → XOpd.eval tm (.t 7) = .int .i64 i → M44 M v σ →
    (fiB (brk L m) (R.drop i) i = none → Ends (Run X (.code (.loop xf44l0)) tm σ) (.exit 2) fun tm' σ' => tm'.length = 49 ∧ XOpd.eval tm' (.t 1) = s ∧ XOpd.eval tm' (.t 2) = .ptr 0 0 ∧ XOpd.eval tm' (.t 4) = .ptr 1 0 ∧ XOpd.eval tm' (.t 6) = .int .i64 m ∧ M44 M v σ') ∧
    ∀ j, fiB (brk L m) (R.drop i) i = some j → Ends (Run X (.code (.loop xf44l0)) tm σ) .ret fun tm' σ' => tm'.length = 49 ∧ XOpd.eval tm' (.t 4) = .ptr 1 0 ∧ XOpd.eval tm' (.t 5) = .bool true ∧ σ'.get 1 = some (.cells [.int .i64 (m : Int), .int .i64 (j : Int)])
  | 0, i, hk, tm, σ, hl, h1, h2, h4, h6, h7, hM => by
    have hi : i = R.length := by omega
    subst hi
    obtain ⟨kln, kdn⟩ := hv.len
    obtain ⟨g0, g1, N, hN⟩ := hM
    constructor
    · intro _
      rw [Run_loop]
      simp [xf44l0, hl, h1, h2, h4, h6, h7, g0, g1, hN, kln, kdn, xload, M44]
    · intro j hj
      simp [fiB] at hj
  | k + 1, i, hk, tm, σ, hl, h1, h2, h4, h6, h7, hM => by
    have hi : i < R.length := by omega
    have hd : R.drop i = R[i] :: R.drop (i + 1) := List.drop_eq_getElem_cons hi
    obtain ⟨r1, r2⟩ := round44 hX hv hn h hnl hm hi tm σ hl h1 h2 h4 h6 h7 hM
    rw [hd, Run_loop]
    cases he : brk L m R[i] with
    | false =>
      obtain ⟨o1, p1, p2, p3, p4, p5, p6, p7⟩ := out_of (r1 he)
      have ih := inner44 hv hn h hnl hm k (i + 1) (by omega) _ _ p1 p2 p3 p4 p5 p6 p7
      simp only [fiB, he, Bool.false_eq_true, if_false]
      rw [o1, thenC_normal]
      exact ih
    | true =>
      obtain ⟨o1, p1, p2, p3, p4⟩ := out_of (r2 he)
      simp only [fiB, he, if_true]
      rw [o1, thenC_ret]
      constructor
      · intro e; cases e
      · intro j e
        cases e
        exact ⟨_, _, rfl, p1, p2, p3, p4⟩
theorem outer44 {M : Int} {R : List Hr} {v s : AVal} (hv : HrsV R v) (hn : R.length ≤ 1000000000) {L : List Int} (h : IntV L s) (hnl : L.length ≤ 1000000000) : ∀ (k m : Nat), m + k = L.length → ∀ (tm : List AVal) (σ : Store), tm.length = 49 → XOpd.eval tm (.t 1) = s → XOpd.eval tm (.t 2) = .ptr 0 0 → XOpd.eval tm (.t 4) = .ptr 1 0 → XOpd.eval tm (.t 6) = .int .i64 m → M44 M v σ →
    Ends (Run X (.code (.loop xf44l1)) tm σ) (if bkn R L k m = none then .exit 0 else .ret) fun tm' σ' => tm'.length = 49 ∧ XOpd.eval tm' (.t 4) = .ptr 1 0 ∧ (bkn R L k m = none → σ'.get 1 = some (.cells [.int .i64 0, .int .i64 0])) ∧ ∀ a b, bkn R L k m = some (a, b) → XOpd.eval tm' (.t 5) = .bool true ∧ σ'.get 1 = some (.cells [.int .i64 (a : Nat), .int .i64 (b : Nat)])
  | 0, m, hk, tm, σ, hl, h1, h2, h4, h6, hM => by
    have hi : m = L.length := by omega
    subst hi
    obtain ⟨kln, kdn⟩ := h.len
    obtain ⟨g0, g1, N, hN⟩ := hM
    rw [Run_loop]
    simp [xf44l1, hl, h1, h4, h6, g1, kln, kdn, bkn]
  | k + 1, m, hk, tm, σ, hl, h1, h2, h4, h6, hM => by
    have hm : m < L.length := by omega
    have hmm : (m : Int) < L.length := by omega
    have hw : IntKind.i64.wrap ((m : Int) + 1) = ((m + 1 : Nat) : Int) := by rw [wrap_i64] <;> omega
    obtain ⟨kln, kdn⟩ := h.len
    have hI := fun tm σ h1 h2 h3 h4 h5 h6 h7 => inner44 hX (M := M) hv hn h hnl hm R.length 0 (by omega) tm σ h1 h2 h3 h4 h5 h6 h7
    simp only [List.drop_zero] at hI
    rw [Run_loop]
    have e1 : xf44l1 = .seq xf44l1.fst xf44l1.snd := rfl
    cases he : fiB (brk L m) R 0 with
    | none =>
      have key : Ends (Run X (.code xf44l1) tm σ) .normal fun tm' σ' => tm'.length = 49 ∧ XOpd.eval tm' (.t 1) = s ∧ XOpd.eval tm' (.t 2) = .ptr 0 0 ∧ XOpd.eval tm' (.t 4) = .ptr 1 0 ∧ XOpd.eval tm' (.t 6) = .int .i64 ((m + 1 : Nat) : Int) ∧ M44 M v σ' := by
        have hI' := fun tm σ h1 h2 h3 h4 h5 h6 h7 => out_of ((hI tm σ h1 h2 h3 h4 h5 h6 h7).1 he)
        obtain ⟨q1, q2, q3, q4, q5, q6, q7⟩ := hI' (putT (putT (putT (putT (putT tm (some 9) (.int .i64 m)) (some 10) s) (some 11) (.int .i64 L.length)) (some 12) (.bool true)) (some 7) (.int .i64 0)) σ (by simp [hl]) (by simp [hl, h1]) (by simp [hl, h2]) (by simp [hl, h4]) (by simp [hl, h6]) (by simp [hl]) hM
        generalize hT : outT X (.loop xf44l0) _ σ = tm3 at *
        generalize hS : outS X (.loop xf44l0) _ σ = σ3 at *
        simp [xf44l1, hl, h1, h2, h4, h6, kln, kdn, hmm, q1, q2, q3, q4, q5, q6, q7, hw]
      obtain ⟨o1, p1, p2, p3, p4, p5, p6⟩ := out_of key
      simp only [bkn, he]
      rw [o1, thenC_normal]
      exact outer44 hv hn h hnl k (m + 1) (by omega) _ _ p1 p2 p3 p4 p5 p6
    | some j =>
      have key : Ends (Run X (.code xf44l1) tm σ) .ret fun tm' σ' => tm'.length = 49 ∧ XOpd.eval tm' (.t 4) = .ptr 1 0 ∧ XOpd.eval tm' (.t 5) = .bool true ∧ σ'.get 1 = some (.cells [.int .i64 (m : Int), .int .i64 (j : Int)]) := by
        have hI' := fun tm σ h1 h2 h3 h4 h5 h6 h7 => out_of ((hI tm σ h1 h2 h3 h4 h5 h6 h7).2 j he)
        obtain ⟨q1, q2, q3, q4, q5⟩ := hI' (putT (putT (putT (putT (putT tm (some 9) (.int .i64 m)) (some 10) s) (some 11) (.int .i64 L.length)) (some 12) (.bool true)) (some 7) (.int .i64 0)) σ (by simp [hl]) (by simp [hl, h1]) (by simp [hl, h2]) (by simp [hl, h4]) (by simp [hl, h6]) (by simp [hl]) hM
        generalize hT : outT X (.loop xf44l0) _ σ = tm3 at *
        generalize hS : outS X (.loop xf44l0) _ σ = σ3 at *
        simp [xf44l1, hl, h1, h2, h4, h6, kln, kdn, hmm, q1, q2, q3, q4, q5, hw]
      obtain ⟨o1, p1, p2, p3, p4⟩ := out_of key
      simp only [bkn, he]
      rw [o1, thenC_ret]
      refine ⟨_, _, rfl, p1, p2, ?_, ?_⟩
      · intro e; cases e
      · intro a b e; cases e; exact ⟨p3, p4⟩
theorem w44 {M : Int} {R : List Hr} {v s : AVal} (hv : HrsV R v) (hn : R.length ≤ 1000000000) {L : List Int} (h : IntV L s) (hnl : L.length ≤ 1000000000) (σ : Store) : Run X (.call 44) [.agg [.int .i64 M, v], s] σ = some (.ret, [bkV (bkn R L L.length 0)], σ) := by
  have e2 : (bkV (bkn R L L.length 0)).strip.free = true := by
    cases bkn R L L.length 0 with
    | none => rfl
    | some ab => rfl
  have e1 : (bkV (bkn R L L.length 0)).strip = bkV (bkn R L L.length 0) := by
    cases bkn R L L.length 0 with
    | none => rfl
    | some ab => rfl
  suffices hg : ∀ tm, tm.length = xf44.ntmps → XOpd.eval tm (.t 0) = (AVal.agg [.int .i64 M, v]).strip → XOpd.eval tm (.t 1) = s.strip → Gives X xf44 tm (bkV (bkn R L L.length 0)) by
    have key := call2 (X := X) (a := .agg [.int .i64 M, v]) (b := s) (v := bkV (bkn R L L.length 0)) hX.h44 (by simp [AVal.strip, stripL, AVal.free, freeL, hv.free.1, hv.free.2]) (by rw [h.free.2]; exact h.free.1) (by decide) hg e2 σ
    rwa [e1] at key
  intro tm hl h0 h1
  simp only [AVal.strip, stripL, hv.free.2] at h0
  rw [h.free.2] at h1
  replace hl : tm.length = 49 := hl
  have eP : Ends (Run X (.code (XCode.cutP 1 xf44.body)) tm Store.empty) .normal fun tm' σ' => tm'.length = 49 ∧ XOpd.eval tm' (.t 1) = s ∧ XOpd.eval tm' (.t 2) = .ptr 0 0 ∧ XOpd.eval tm' (.t 4) = .ptr 1 0 ∧ XOpd.eval tm' (.t 6) = .int .i64 (0 : Nat) ∧ M44 M v σ' := by
    unfold M44
    simp [xf44, XCode.cutP, hl, h0, h1, xload, AVal.cells, Store.empty, Store.new, Store.put, Store.get, look, putL, setR, Store.only, Store.merge, touch, wrote, upTo, isIn, okRec, hits, capsOf, xcaps, stripL, AVal.strip, freeL, AVal.free, fillR, chunks, mkV, List.filter]
  obtain ⟨oP, p1, p2, p3, p4, p5, p6⟩ := out_of eP
  obtain ⟨q1, q2, q3, q4, q5⟩ := out_of (outer44 hX hv hn h hnl L.length 0 (by omega) _ _ p1 p2 p3 p4 p5 p6)
  unfold Gives
  rw [Run_cut 1, oP, thenC_normal, show XCode.cutB 1 xf44.body = .block 0 (.loop xf44l1) from rfl, Run_block, q1]
  generalize outT X (.loop xf44l1) _ _ = tm3 at *
  generalize outS X (.loop xf44l1) _ _ = σ3 at *
  cases hb : bkn R L L.length 0 with
  | none =>
    have q4' := q4 hb
    simp [xf44, XCode.cutR, bkV, q2, q3, q4', xload, AVal.cells, xresult, xrets, xret_t, xret_cn, put_next, new_next, Store.get_new, Store.get_put, put_get, setR, only_get, merge_get', only_next, merge_next, upTo_self, upTo_one, merge_only, touch, wrote, isIn, okRec, hits, capsOf, xcaps, stripL, AVal.strip, freeL, AVal.free, fillR, chunks, mkV]
  | some ab =>
    obtain ⟨a, b⟩ := ab
    obtain ⟨q6, q7⟩ := q5 a b hb
    simp [xf44, XCode.cutR, bkV, q2, q3, q6, q7, xload, AVal.cells, xresult, xrets, xret_t, xret_cn, put_next, new_next, Store.get_new, Store.get_put, put_get, setR, only_get, merge_get', only_next, merge_next, upTo_self, upTo_one, merge_only, touch, wrote, isIn, okRec, hits, capsOf, xcaps, stripL, AVal.strip, freeL, AVal.free, fillR, chunks, mkV]
end
end Go.Proofs.Ytjbegiaceekgcaa.Eng

/-
  SEQUENCE: halls: a machine enters a step.
-/
namespace Go.Proofs.Ytjbegiaceekgcaa.Eng
set_option linter.unusedSimpArgs false
set_option linter.unusedVariables false
def enterE (M : Int) (R : List Hr) (L : List Int) (m s : Int) : Int := firstNZ [stepsE M R L, if win m 0 ((L.length : Int) - 1) then 0 else 6, chs s]
def enterV (M : Int) (R : List Hr) (L : List Int) (m s : Int) : AVal := if enterE M R L m s = 0 then (match bkn R (L.set m.toNat s) L.length 0 with
  | none => .tup [.int .i64 0, .int .i64 0]
  | some (_, k) => .tup [.int .i64 (k : Nat), .int .i64 24]) else .tup [.int .i64 0, .int .i64 (enterE M R L m s)]
theorem enterV_flat (M : Int) (R : List Hr) (L : List Int) (m s : Int) : (enterV M R L m s).strip.free = true ∧ (enterV M R L m s).strip = enterV M R L m s := by
  unfold enterV
  split
  · cases bkn R (L.set m.toNat s) L.length 0 with
    | none => exact ⟨rfl, rfl⟩
    | some ab => exact ⟨rfl, rfl⟩
  · exact ⟨rfl, rfl⟩
theorem ints_set (L : List Int) (i : Nat) (x : Int) : (ints L).set i (.int .i64 x) = ints (L.set i x) := by simp [ints, List.map_set]
theorem movf_ints {n : Nat} {L : List Int} {σ : Store} {k : Nat} (hk : k = L.length) (h : σ.get n = some (.cells (ints L))) : xmovf σ (.mlist 1 n 0 k) = some (.list 1 (ints L) none, σ.put n (.ro (ints L))) := by
  subst hk
  have : chunks false 1 L.length (ints L) = some (ints L) := chunks_ints L
  simp [xmovf, h, ints_len, ints_fr, this]
section
variable {X : FuncId → Option XFunc} (hX : SqLCode X)
include hX
set_option maxHeartbeats 8000000 in
theorem w41 {M : Int} {R : List Hr} {v s : AVal} (hv : HrsV R v) (hn : R.length ≤ 1000000000) {L : List Int} (h : IntV L s) (hnl : L.length ≤ 1000000000) (m t : Int) (σ : Store) : Run X (.call 41) [.agg [.int .i64 M, v], s, .agg [.int .i64 m, .int .i64 t]] σ = some (.ret, [enterV M R L m t], σ) := by
  obtain ⟨e2, e1⟩ := enterV_flat M R L m t
  suffices hg : ∀ tm, tm.length = xf41.ntmps → XOpd.eval tm (.t 0) = (AVal.agg [.int .i64 M, v]).strip → XOpd.eval tm (.t 1) = s.strip → XOpd.eval tm (.t 2) = (AVal.agg [.int .i64 m, .int .i64 t]).strip → Gives X xf41 tm (enterV M R L m t) by
    have key := call3 (X := X) (a := .agg [.int .i64 M, v]) (b := s) (c := .agg [.int .i64 m, .int .i64 t]) (v := enterV M R L m t) hX.h41 (by simp [AVal.strip, stripL, AVal.free, freeL, hv.free.1, hv.free.2]) (by rw [h.free.2]; exact h.free.1) rfl (by decide) hg e2 σ
    rwa [e1] at key
  intro tm hl h0 h1 h2
  simp only [AVal.strip, stripL, hv.free.2] at h0 h2
  rw [h.free.2] at h1
  replace hl : tm.length = 47 := hl
  have f1 := hv.free.1
  have f2 := hv.free.2
  have g1 := h.free.1
  have g2 := h.free.2
  obtain ⟨hln, hdn⟩ := h.len
  have u1 := w94 hX (M := M) hv h hn hnl
  have hw : IntKind.i64.wrap ((L.length : Int) - 1) = (L.length : Int) - 1 := by rw [wrap_i64] <;> omega
  have u2 := w81 hX (a := m) hw
  have u3 := w96 hX
  have u4 := first3 hX
  have u5 := w56 hX
  unfold enterV
  have hE : firstNZ [stepsE M R L, if win m 0 ((L.length : Int) - 1) then 0 else 6, chs t] = enterE M R L m t := rfl
  by_cases he : enterE M R L m t = 0
  · rw [he] at hE
    simp only [he, if_true]
    have hm : win m 0 ((L.length : Int) - 1) = true := by
      cases c : win m 0 ((L.length : Int) - 1) with
      | true => rfl
      | false =>
        rw [c] at hE
        unfold firstNZ at hE
        by_cases c1 : stepsE M R L = 0
        · simp [c1, firstNZ] at hE
        · simp [c1] at hE
    rw [win_iff] at hm
    obtain ⟨i, rfl⟩ : ∃ i : Nat, m = i := ⟨m.toNat, by omega⟩
    have hi : i < L.length := by omega
    have hne : L ≠ [] := by intro e; simp [e] at hi
    have hs := h.ne hne
    have eP : Ends (Run X (.code (.seq xf41.body.fst xf41.body.snd.fst)) tm Store.empty) .normal fun tm' σ' => tm'.length = 47 ∧ XOpd.eval tm' (.t 1) = s ∧ XOpd.eval tm' (.t 3) = .ptr 0 0 ∧ XOpd.eval tm' (.t 5) = .ptr 1 0 ∧ σ'.next = 3 ∧ σ'.get 0 = some (.cells [.int .i64 M, v]) ∧ σ'.get 1 = some (.cells [.int .i64 (i : Int), .int .i64 t]) := by
      simp [xf41, XCode.fst, XCode.snd, hl, h0, h1, h2, f1, f2, g1, g2, hln, hdn, hw, u1, u2, u3, u4, hE, xload, AVal.cells, Store.empty, Store.new, Store.put, Store.get, look, putL, setR, Store.only, Store.merge, touch, wrote, upTo, isIn, okRec, hits, capsOf, xcaps, stripL, AVal.strip, freeL, AVal.free, fillR, chunks, mkV, List.filter]
    obtain ⟨o1, p1, p2, p3, p4, p5, p6, p7⟩ := out_of eP
    rw [hs] at p2
    obtain ⟨n, τ, k1, k2, k3, k4, k5⟩ := clone97 hX hne hnl (outS X (.seq xf41.body.fst xf41.body.snd.fst) tm Store.empty)
    have c0 : τ.get 0 = some (.cells [.int .i64 M, v]) := by rw [k5 0 (by rw [p5]; omega)]; exact p6
    have c1 : τ.get 1 = some (.cells [.int .i64 (i : Int), .int .i64 t]) := by rw [k5 1 (by rw [p5]; omega)]; exact p7
    rw [p5] at k2
    have hi' : i < (ints L).length := by rw [ints_len]; exact hi
    have hi2 : i + 1 ≤ (ints L).length := hi'
    have hset : (ints L).set i (.int .i64 t) = ints (L.set i t) := ints_set L i t
    have hlen : (L.set i t).length = L.length := List.length_set
    have hB : IntV (L.set i t) (.list 1 (ints (L.set i t)) none) := .inl rfl
    have u6 := w95 hX (M := M) hv hn hB (by rw [hlen]; exact hnl)
    rw [hlen] at u6
    have fr := ints_fr (L.set i t)
    have fs := freeL_strip fr
    have mvf : ∀ σ : Store, σ.get n = some (.cells (ints (L.set i t))) → xmovf σ (.mlist 1 n 0 L.length) = some (.list 1 (ints (L.set i t)) none, σ.put n (.ro (ints (L.set i t)))) := fun σ h => movf_ints hlen.symm h
    obtain ⟨n', rfl⟩ : ∃ n', n = n' + 3 := ⟨n - 3, by omega⟩
    obtain ⟨N, hN⟩ : ∃ N, τ.next = n' + N + 4 := ⟨τ.next - n' - 4, by omega⟩
    unfold Gives
    rw [show xf41.body = .seq xf41.body.fst (.seq xf41.body.snd.fst xf41.body.snd.snd) from rfl, seq_left, Run_seq, o1, thenC_normal]
    generalize outT X (.seq xf41.body.fst xf41.body.snd.fst) tm Store.empty = tm1 at *
    generalize outS X (.seq xf41.body.fst xf41.body.snd.fst) tm Store.empty = σ1 at *
    rw [show ((i : Int)).toNat = i from rfl] at *
    cases hb : bkn R (L.set i t) L.length 0 with
    | none =>
      rw [hb] at u6
      simp [xf41, XCode.fst, XCode.snd, p1, p2, p3, p4, k1, k4, c0, c1, hi, hi', hi2, hset, hN, mvf, fr, fs, f1, f2, u6, bkV, u5, xload, AVal.cells, AVal.one, xresult, xrets, xret_t, put_next, new_next, Store.get_new, Store.get_put, put_get, setR, only_get, merge_get', only_next, merge_next, upTo_self, upTo_one, merge_only, touch, wrote, isIn, okRec, hits, capsOf, xcaps, stripL, AVal.strip, freeL, AVal.free, fillR, chunks, mkV]
    | some ab =>
      obtain ⟨a, b⟩ := ab
      rw [hb] at u6
      simp [xf41, XCode.fst, XCode.snd, p1, p2, p3, p4, k1, k4, c0, c1, hi, hi', hi2, hset, hN, mvf, fr, fs, f1, f2, u6, bkV, u5, xload, AVal.cells, AVal.one, xresult, xrets, xret_t, put_next, new_next, Store.get_new, Store.get_put, put_get, setR, only_get, merge_get', only_next, merge_next, upTo_self, upTo_one, merge_only, touch, wrote, isIn, okRec, hits, capsOf, xcaps, stripL, AVal.strip, freeL, AVal.free, fillR, chunks, mkV]
  · simp only [he, if_false]
    unfold Gives
    simp [xf41, hl, h0, h1, h2, f1, f2, g1, g2, hln, hdn, hw, u1, u2, u3, u4, hE, he, xload, AVal.cells, xresult, xrets, xret_t, Store.empty, Store.new, Store.put, Store.get, look, putL, setR, Store.only, Store.merge, touch, wrote, upTo, isIn, okRec, hits, capsOf, xcaps, stripL, AVal.strip, freeL, AVal.free, fillR, chunks, mkV, List.filter]
end
end Go.Proofs.Ytjbegiaceekgcaa.Eng

/-
  SEQUENCE: the law of halls.
-/
namespace Go.Proofs.Ytjbegiaceekgcaa.Eng
set_option linter.unusedSimpArgs false
set_option linter.unusedVariables false
/-- A value that is flat. -/
def Flt (v : AVal) : Prop := v.free = true ∧ v.strip = v
section
variable {X : FuncId → Option XFunc} (hX : SqLCode X)
include hX
set_option maxHeartbeats 8000000 in
theorem l7few (aw : ∀ σ, Run X (.call 8) [] σ = some (.ret, [.bool true], σ)) {M m t : Int} {v s : AVal} (fv : Flt v) (fs : Flt s) (c37 : ∀ σ, Run X (.call 37) [.agg [.int .i64 M, v], s] σ = some (.ret, [.bool false], σ)) (σ : Store) :
    Run X (.call 7) [.agg [.int .i64 M, v], s, .agg [.int .i64 m, .int .i64 t]] σ = some (.ret, [.bool true], σ) := by
  refine call3 (X := X) (a := .agg [.int .i64 M, v]) (b := s) (c := .agg [.int .i64 m, .int .i64 t]) (v := .bool true) hX.h7 (by simp [AVal.strip, stripL, AVal.free, freeL, fv.1, fv.2]) (by rw [fs.2]; exact fs.1) rfl (by decide) (fun tm hl h0 h1 h2 => ?_) rfl σ
  simp only [AVal.strip, stripL, fv.2] at h0 h2
  rw [fs.2] at h1
  replace hl : tm.length = 156 := hl
  unfold Gives
  simp [xf7, hl, h0, h1, h2, aw, c37, fv.1, fv.2, fs.1, fs.2, xload, AVal.cells, Store.empty, Store.new, Store.put, Store.get, look, putL, setR, Store.only, Store.merge, touch, wrote, upTo, isIn, okRec, hits, capsOf, xcaps, stripL, AVal.strip, freeL, AVal.free, fillR, chunks, mkV, List.filter]
set_option maxHeartbeats 8000000 in
theorem l7bad (aw : ∀ σ, Run X (.call 8) [] σ = some (.ret, [.bool true], σ)) {M m t a e d : Int} {v s w q : AVal} (fv : Flt v) (fs : Flt s) (fw : Flt w) (fq : Flt q) (c37 : ∀ σ, Run X (.call 37) [.agg [.int .i64 M, v], s] σ = some (.ret, [.bool true], σ))
    (c39 : ∀ σ, Run X (.call 39) [.agg [.int .i64 M, v]] σ = some (.ret, [.agg [.int .i64 M, w]], σ)) (c33 : ∀ σ, Run X (.call 33) [s] σ = some (.ret, [q], σ))
    (c38 : ∀ σ, Run X (.call 38) [.agg [.int .i64 M, w]] σ = some (.ret, [.tup [.int .i64 a, .int .i64 e]], σ)) (c42 : ∀ σ, Run X (.call 42) [.agg [.int .i64 M, v]] σ = some (.ret, [.tup [.int .i64 a, .int .i64 e]], σ))
    (c43 : ∀ σ, Run X (.call 43) [.agg [.int .i64 M, v], s] σ = some (.ret, [.int .i64 d], σ)) (hd : (if e = 0 then d else e) ≠ 0)
    (c40 : ∀ σ, Run X (.call 40) [.agg [.int .i64 M, w], q] σ = some (.ret, [.tup [.agg [.int .i64 0, .int .i64 0], .int .i64 (if e = 0 then d else e)]], σ))
    (c41 : ∀ σ, Run X (.call 41) [.agg [.int .i64 M, w], q, .agg [.int .i64 m, .int .i64 t]] σ = some (.ret, [.tup [.int .i64 0, .int .i64 (if e = 0 then d else e)]], σ)) (σ : Store) :
    Run X (.call 7) [.agg [.int .i64 M, v], s, .agg [.int .i64 m, .int .i64 t]] σ = some (.ret, [.bool true], σ) := by
  refine call3 (X := X) (a := .agg [.int .i64 M, v]) (b := s) (c := .agg [.int .i64 m, .int .i64 t]) (v := .bool true) hX.h7 (by simp [AVal.strip, stripL, AVal.free, freeL, fv.1, fv.2]) (by rw [fs.2]; exact fs.1) rfl (by decide) (fun tm hl h0 h1 h2 => ?_) rfl σ
  simp only [AVal.strip, stripL, fv.2] at h0 h2
  rw [fs.2] at h1
  replace hl : tm.length = 156 := hl
  unfold Gives
  by_cases he : e = 0
  · simp only [he, if_true] at hd c40 c41 c38 c42
    simp [xf7, hl, h0, h1, h2, aw, c37, c39, c33, c38, c42, c43, c40, c41, hd, fv.1, fv.2, fs.1, fs.2, fw.1, fw.2, fq.1, fq.2, xload, AVal.cells, Store.empty, Store.new, Store.put, Store.get, look, putL, setR, Store.only, Store.merge, touch, wrote, upTo, isIn, okRec, hits, capsOf, xcaps, stripL, AVal.strip, freeL, AVal.free, fillR, chunks, mkV, List.filter]
  · simp only [he, if_false] at hd c40 c41
    simp [xf7, hl, h0, h1, h2, aw, c37, c39, c33, c38, c42, c43, c40, c41, he, fv.1, fv.2, fs.1, fs.2, fw.1, fw.2, fq.1, fq.2, xload, AVal.cells, Store.empty, Store.new, Store.put, Store.get, look, putL, setR, Store.only, Store.merge, touch, wrote, upTo, isIn, okRec, hits, capsOf, xcaps, stripL, AVal.strip, freeL, AVal.free, fillR, chunks, mkV, List.filter]
set_option maxHeartbeats 8000000 in
theorem l7out (aw : ∀ σ, Run X (.call 8) [] σ = some (.ret, [.bool true], σ)) {M m t a : Int} {v s w q : AVal} (fv : Flt v) (fs : Flt s) (fw : Flt w) (fq : Flt q) (c37 : ∀ σ, Run X (.call 37) [.agg [.int .i64 M, v], s] σ = some (.ret, [.bool true], σ))
    (c39 : ∀ σ, Run X (.call 39) [.agg [.int .i64 M, v]] σ = some (.ret, [.agg [.int .i64 M, w]], σ)) (c33 : ∀ σ, Run X (.call 33) [s] σ = some (.ret, [q], σ))
    (c38 : ∀ σ, Run X (.call 38) [.agg [.int .i64 M, w]] σ = some (.ret, [.tup [.int .i64 a, .int .i64 0]], σ)) (c42 : ∀ σ, Run X (.call 42) [.agg [.int .i64 M, v]] σ = some (.ret, [.tup [.int .i64 a, .int .i64 0]], σ))
    (c43 : ∀ σ, Run X (.call 43) [.agg [.int .i64 M, v], s] σ = some (.ret, [.int .i64 0], σ)) (wM : IntKind.i64.wrap (M - 1) = M - 1) {o : Option (Nat × Nat)}
    (c40 : ∀ σ, Run X (.call 40) [.agg [.int .i64 M, w], q] σ = some (.ret, [match o with | none => .tup [.agg [.int .i64 0, .int .i64 0], .int .i64 12] | some (x, y) => .tup [.agg [.int .i64 (x : Nat), .int .i64 (y : Nat)], .int .i64 0]], σ))
    (c44 : ∀ σ, Run X (.call 44) [.agg [.int .i64 M, v], s] σ = some (.ret, [bkV o], σ))
    (hw : (win m 0 (M - 1) && win t 0 9) = false)
    (c41 : ∀ σ, Run X (.call 41) [.agg [.int .i64 M, w], q, .agg [.int .i64 m, .int .i64 t]] σ = some (.ret, [.tup [.int .i64 0, .int .i64 6]], σ)) (σ : Store) :
    Run X (.call 7) [.agg [.int .i64 M, v], s, .agg [.int .i64 m, .int .i64 t]] σ = some (.ret, [.bool true], σ) := by
  refine call3 (X := X) (a := .agg [.int .i64 M, v]) (b := s) (c := .agg [.int .i64 m, .int .i64 t]) (v := .bool true) hX.h7 (by simp [AVal.strip, stripL, AVal.free, freeL, fv.1, fv.2]) (by rw [fs.2]; exact fs.1) rfl (by decide) (fun tm hl h0 h1 h2 => ?_) rfl σ
  simp only [AVal.strip, stripL, fv.2] at h0 h2
  rw [fs.2] at h1
  replace hl : tm.length = 156 := hl
  have uw := w45 hX
  unfold Gives
  cases o with
  | none =>
    cases hm : win m 0 (M - 1) with
    | false => simp [xf7, hl, h0, h1, h2, aw, c37, c39, c33, c38, c42, c43, c40, c41, c44, uw, wM, hm, bkV, fv.1, fv.2, fs.1, fs.2, fw.1, fw.2, fq.1, fq.2, xload, AVal.cells, Store.empty, Store.new, Store.put, Store.get, look, putL, setR, Store.only, Store.merge, touch, wrote, upTo, isIn, okRec, hits, capsOf, xcaps, stripL, AVal.strip, freeL, AVal.free, fillR, chunks, mkV, List.filter]
    | true =>
      rw [hm, Bool.true_and] at hw
      simp [xf7, hl, h0, h1, h2, aw, c37, c39, c33, c38, c42, c43, c40, c41, c44, uw, wM, hm, hw, bkV, fv.1, fv.2, fs.1, fs.2, fw.1, fw.2, fq.1, fq.2, xload, AVal.cells, Store.empty, Store.new, Store.put, Store.get, look, putL, setR, Store.only, Store.merge, touch, wrote, upTo, isIn, okRec, hits, capsOf, xcaps, stripL, AVal.strip, freeL, AVal.free, fillR, chunks, mkV, List.filter]
  | some xy =>
    obtain ⟨x, y⟩ := xy
    cases hm : win m 0 (M - 1) with
    | false => simp [xf7, hl, h0, h1, h2, aw, c37, c39, c33, c38, c42, c43, c40, c41, c44, uw, wM, hm, bkV, fv.1, fv.2, fs.1, fs.2, fw.1, fw.2, fq.1, fq.2, xload, AVal.cells, Store.empty, Store.new, Store.put, Store.get, look, putL, setR, Store.only, Store.merge, touch, wrote, upTo, isIn, okRec, hits, capsOf, xcaps, stripL, AVal.strip, freeL, AVal.free, fillR, chunks, mkV, List.filter]
    | true =>
      rw [hm, Bool.true_and] at hw
      simp [xf7, hl, h0, h1, h2, aw, c37, c39, c33, c38, c42, c43, c40, c41, c44, uw, wM, hm, hw, bkV, fv.1, fv.2, fs.1, fs.2, fw.1, fw.2, fq.1, fq.2, xload, AVal.cells, Store.empty, Store.new, Store.put, Store.get, look, putL, setR, Store.only, Store.merge, touch, wrote, upTo, isIn, okRec, hits, capsOf, xcaps, stripL, AVal.strip, freeL, AVal.free, fillR, chunks, mkV, List.filter]
set_option maxHeartbeats 8000000 in
theorem l7in (aw : ∀ σ, Run X (.call 8) [] σ = some (.ret, [.bool true], σ)) {M m t a : Int} {v s w q : AVal} (fv : Flt v) (fs : Flt s) (fw : Flt w) (fq : Flt q) (c37 : ∀ σ, Run X (.call 37) [.agg [.int .i64 M, v], s] σ = some (.ret, [.bool true], σ))
    (c39 : ∀ σ, Run X (.call 39) [.agg [.int .i64 M, v]] σ = some (.ret, [.agg [.int .i64 M, w]], σ)) (c33 : ∀ σ, Run X (.call 33) [s] σ = some (.ret, [q], σ))
    (c38 : ∀ σ, Run X (.call 38) [.agg [.int .i64 M, w]] σ = some (.ret, [.tup [.int .i64 a, .int .i64 0]], σ)) (c42 : ∀ σ, Run X (.call 42) [.agg [.int .i64 M, v]] σ = some (.ret, [.tup [.int .i64 a, .int .i64 0]], σ))
    (c43 : ∀ σ, Run X (.call 43) [.agg [.int .i64 M, v], s] σ = some (.ret, [.int .i64 0], σ)) (wM : IntKind.i64.wrap (M - 1) = M - 1) {o : Option (Nat × Nat)}
    (c40 : ∀ σ, Run X (.call 40) [.agg [.int .i64 M, w], q] σ = some (.ret, [match o with | none => .tup [.agg [.int .i64 0, .int .i64 0], .int .i64 12] | some (x, y) => .tup [.agg [.int .i64 (x : Nat), .int .i64 (y : Nat)], .int .i64 0]], σ))
    (c44 : ∀ σ, Run X (.call 44) [.agg [.int .i64 M, v], s] σ = some (.ret, [bkV o], σ))
    (hm : win m 0 (M - 1) = true) (ht : win t 0 9 = true) {q2 : AVal} (fq2 : Flt q2) (c46 : ∀ σ, Run X (.call 46) [s, .agg [.int .i64 m, .int .i64 t]] σ = some (.ret, [q2], σ)) {o2 : Option (Nat × Nat)}
    (c41 : ∀ σ, Run X (.call 41) [.agg [.int .i64 M, w], q, .agg [.int .i64 m, .int .i64 t]] σ = some (.ret, [match o2 with | none => .tup [.int .i64 0, .int .i64 0] | some (_, y) => .tup [.int .i64 (y : Nat), .int .i64 24]], σ))
    (c44b : ∀ σ, Run X (.call 44) [.agg [.int .i64 M, v], q2] σ = some (.ret, [bkV o2], σ)) (σ : Store) :
    Run X (.call 7) [.agg [.int .i64 M, v], s, .agg [.int .i64 m, .int .i64 t]] σ = some (.ret, [.bool true], σ) := by
  refine call3 (X := X) (a := .agg [.int .i64 M, v]) (b := s) (c := .agg [.int .i64 m, .int .i64 t]) (v := .bool true) hX.h7 (by simp [AVal.strip, stripL, AVal.free, freeL, fv.1, fv.2]) (by rw [fs.2]; exact fs.1) rfl (by decide) (fun tm hl h0 h1 h2 => ?_) rfl σ
  simp only [AVal.strip, stripL, fv.2] at h0 h2
  rw [fs.2] at h1
  replace hl : tm.length = 156 := hl
  have uw := w45 hX
  unfold Gives
  cases o with
  | none =>
    cases o2 with
    | none => simp [xf7, hl, h0, h1, h2, aw, c37, c39, c33, c38, c42, c43, c40, c41, c44, uw, wM, hm, ht, c46, c44b, fq2.1, fq2.2, bkV, fv.1, fv.2, fs.1, fs.2, fw.1, fw.2, fq.1, fq.2, xload, AVal.cells, Store.empty, Store.new, Store.put, Store.get, look, putL, setR, Store.only, Store.merge, touch, wrote, upTo, isIn, okRec, hits, capsOf, xcaps, stripL, AVal.strip, freeL, AVal.free, fillR, chunks, mkV, List.filter]
    | some xy2 =>
      obtain ⟨x2, y2⟩ := xy2
      simp [xf7, hl, h0, h1, h2, aw, c37, c39, c33, c38, c42, c43, c40, c41, c44, uw, wM, hm, ht, c46, c44b, fq2.1, fq2.2, bkV, fv.1, fv.2, fs.1, fs.2, fw.1, fw.2, fq.1, fq.2, xload, AVal.cells, Store.empty, Store.new, Store.put, Store.get, look, putL, setR, Store.only, Store.merge, touch, wrote, upTo, isIn, okRec, hits, capsOf, xcaps, stripL, AVal.strip, freeL, AVal.free, fillR, chunks, mkV, List.filter]
  | some xy =>
    obtain ⟨x, y⟩ := xy
    cases o2 with
    | none => simp [xf7, hl, h0, h1, h2, aw, c37, c39, c33, c38, c42, c43, c40, c41, c44, uw, wM, hm, ht, c46, c44b, fq2.1, fq2.2, bkV, fv.1, fv.2, fs.1, fs.2, fw.1, fw.2, fq.1, fq.2, xload, AVal.cells, Store.empty, Store.new, Store.put, Store.get, look, putL, setR, Store.only, Store.merge, touch, wrote, upTo, isIn, okRec, hits, capsOf, xcaps, stripL, AVal.strip, freeL, AVal.free, fillR, chunks, mkV, List.filter]
    | some xy2 =>
      obtain ⟨x2, y2⟩ := xy2
      simp [xf7, hl, h0, h1, h2, aw, c37, c39, c33, c38, c42, c43, c40, c41, c44, uw, wM, hm, ht, c46, c44b, fq2.1, fq2.2, bkV, fv.1, fv.2, fs.1, fs.2, fw.1, fw.2, fq.1, fq.2, xload, AVal.cells, Store.empty, Store.new, Store.put, Store.get, look, putL, setR, Store.only, Store.merge, touch, wrote, upTo, isIn, okRec, hits, capsOf, xcaps, stripL, AVal.strip, freeL, AVal.free, fillR, chunks, mkV, List.filter]
end
end Go.Proofs.Ytjbegiaceekgcaa.Eng

/-
  SEQUENCE: the law of halls, whole.
-/
namespace Go.Proofs.Ytjbegiaceekgcaa.Eng
set_option linter.unusedSimpArgs false
set_option linter.unusedVariables false
theorem stepsE_eq (M : Int) (R : List Hr) (L : List Int) : (if (hallE M R).2 = 0 then sErr M L else (hallE M R).2) = stepsE M R L := by
  unfold stepsE sErr
  by_cases c1 : (hallE M R).2 = 0
  · by_cases c2 : (L.length : Int) = M
    · by_cases c3 : (fiE chs L 0).2 = 0 <;> simp [firstNZ, c1, c2, c3]
    · simp [firstNZ, c1, c2]
  · simp [firstNZ, c1]
theorem stepsE_zero {M : Int} {R : List Hr} {L : List Int} (h : stepsE M R L = 0) : (hallE M R).2 = 0 ∧ sErr M L = 0 ∧ (L.length : Int) = M := by
  rw [← stepsE_eq] at h
  by_cases c1 : (hallE M R).2 = 0
  · simp only [c1, if_true] at h
    refine ⟨c1, h, ?_⟩
    unfold sErr at h
    by_cases c2 : (L.length : Int) = M
    · exact c2
    · simp [c2] at h
  · simp [c1] at h
theorem enterE_bad {M : Int} {R : List Hr} {L : List Int} {m t : Int} (h : stepsE M R L ≠ 0) : enterE M R L m t = stepsE M R L := by simp [enterE, firstNZ, h]
theorem enterE_out {M : Int} {R : List Hr} {L : List Int} {m t : Int} (h : stepsE M R L = 0) (hw : (win m 0 ((L.length : Int) - 1) && win t 0 9) = false) : enterE M R L m t = 6 := by
  unfold enterE chs
  cases c1 : win m 0 ((L.length : Int) - 1) with
  | false => simp [firstNZ, h]
  | true => rw [c1, Bool.true_and] at hw; simp [firstNZ, h, hw]
theorem enterE_in {M : Int} {R : List Hr} {L : List Int} {m t : Int} (h : stepsE M R L = 0) (h1 : win m 0 ((L.length : Int) - 1) = true) (h2 : win t 0 9 = true) : enterE M R L m t = 0 := by
  simp [enterE, chs, firstNZ, h, h1, h2]
section
variable {X : FuncId → Option XFunc} (hX : SqLCode X)
include hX
theorem u7 (aw : ∀ σ, Run X (.call 8) [] σ = some (.ret, [.bool true], σ)) (en : ∀ (L : List Int) (i : Nat) (t : Int), i < L.length → L.length ≤ 1000 → ∀ σ, Run X (.call 46) [.list 1 (ints L) none, .agg [.int .i64 (i : Int), .int .i64 t]] σ = some (.ret, [.list 1 (ints (L.set i t)) none], σ))
    {M m t : Int} {R : List Hr} {L : List Int} {v s : AVal} (hv : HrsV R v) (hs : IntV L s) (σ : Store) : Run X (.call 7) [.agg [.int .i64 M, v], s, .agg [.int .i64 m, .int .i64 t]] σ = some (.ret, [.bool true], σ) := by
  have c37 := w37 hX (M := M) hv hs
  by_cases few : R.length ≤ 14 ∧ L.length ≤ 8
  · obtain ⟨fR, fL⟩ := few
    have c37' : ∀ σ, Run X (.call 37) [.agg [.int .i64 M, v], s] σ = some (.ret, [.bool true], σ) := fun σ => by rw [c37 σ]; simp [fR, fL]
    have nR : R.length ≤ 1000000000 := by omega
    have nL : L.length ≤ 1000000000 := by omega
    have hv' : HrsV R (.list 3 (hrs R) none) := .inl rfl
    have hs' : IntV L (.list 1 (ints L) none) := .inl rfl
    have c39 := w39 hX (M := M) hv nR
    have c33 := w33 hX hs nL
    have c38 := w38 hX (M := M) hv' nR
    have c42 := w42 hX (M := M) hv nR
    have c43 := w43 hX (M := M) hv hs nL
    have c40 := w40 hX (M := M) hv' nR hs' nL
    have c41 := w41 hX (M := M) hv' nR hs' nL m t
    have c44 := w44 hX (M := M) hv nR hs nL
    unfold brokenE at c40
    unfold enterV at c41
    have se := stepsE_eq M R L
    by_cases hE : stepsE M R L = 0
    · obtain ⟨z1, z2, z3⟩ := stepsE_zero hE
      have wM : IntKind.i64.wrap (M - 1) = M - 1 := by rw [wrap_i64] <;> omega
      rw [z1] at c38 c42
      rw [z2] at c43
      simp only [hE, if_true] at c40
      cases hw : win m 0 (M - 1) && win t 0 9 with
      | false =>
        have e6 := enterE_out (m := m) (t := t) hE (by rw [z3]; exact hw)
        have c41' : ∀ σ, Run X (.call 41) [.agg [.int .i64 M, .list 3 (hrs R) none], .list 1 (ints L) none, .agg [.int .i64 m, .int .i64 t]] σ = some (.ret, [.tup [.int .i64 0, .int .i64 6]], σ) := fun σ => by rw [c41 σ, e6]; rfl
        exact l7out hX aw hv.free hs.free hv'.free hs'.free c37' c39 c33 c38 c42 c43 wM c40 c44 hw c41' σ
      | true =>
        rw [Bool.and_eq_true] at hw
        obtain ⟨h1, h2⟩ := hw
        have e0 := enterE_in (m := m) (t := t) hE (by rw [z3]; exact h1) h2
        have h1' := h1
        rw [win_iff] at h1'
        obtain ⟨i, rfl⟩ : ∃ i : Nat, m = i := ⟨m.toNat, by omega⟩
        have hi : i < L.length := by omega
        have hss : s = .list 1 (ints L) none := hs.ne (by intro e; simp [e] at hi)
        have c46 := en L i t hi (by omega)
        rw [← hss] at c46
        have hB : IntV (L.set i t) (.list 1 (ints (L.set i t)) none) := .inl rfl
        have c44b := w44 hX (M := M) hv nR hB (by rw [List.length_set]; exact nL)
        rw [List.length_set] at c44b
        simp only [e0, if_true] at c41
        rw [show ((i : Int)).toNat = i from rfl] at c41
        exact l7in hX aw hv.free hs.free hv'.free hs'.free c37' c39 c33 c38 c42 c43 wM c40 c44 h1 h2 hB.free c46 c41 c44b σ
    · have eb := enterE_bad (m := m) (t := t) hE
      rw [eb] at c41
      simp only [hE, if_false] at c40 c41
      rw [← se] at c40 c41 hE
      exact l7bad hX aw hv.free hs.free hv'.free hs'.free c37' c39 c33 c38 c42 c43 hE c40 c41 σ
  · have c37' : ∀ σ, Run X (.call 37) [.agg [.int .i64 M, v], s] σ = some (.ret, [.bool false], σ) := fun σ => by
      rw [c37 σ]
      by_cases c1 : R.length ≤ 14
      · have c2 : ¬ L.length ≤ 8 := fun c => few ⟨c1, c⟩
        simp [c1, c2]
      · simp [c1]
    exact l7few hX aw hv.free hs.free c37' σ
end
end Go.Proofs.Ytjbegiaceekgcaa.Eng

/-
  SqLFacts: the compiled code is what it is.
-/
namespace Go.Proofs.Ytjbegiaceekgcaa.Eng
open Go.Proofs
theorem sqL_code : SqLCode (xprogG Try.prog [2000054, 127, 2000114, 2000097, 4000003, 1000095] [(46, 2, gEnt)]) where
  h7 := by kernel_rfl
  h37 := by kernel_rfl
  h38 := by kernel_rfl
  h39 := by kernel_rfl
  h40 := by kernel_rfl
  h41 := by kernel_rfl
  h42 := by kernel_rfl
  h43 := by kernel_rfl
  h44 := by kernel_rfl
  h33 := by kernel_rfl
  h51 := by kernel_rfl
  h81 := by kernel_rfl
  h88 := by kernel_rfl
  h90 := by kernel_rfl
  h91 := by kernel_rfl
  h92 := by kernel_rfl
  h93 := by kernel_rfl
  h94 := by kernel_rfl
  h95 := by kernel_rfl
  h96 := by kernel_rfl
  h97 := by kernel_rfl
  h98 := by kernel_rfl
  h99 := by kernel_rfl
  h119 := by kernel_rfl
  h120 := by kernel_rfl
  h121 := by kernel_rfl
  h122 := by kernel_rfl
  h129 := by kernel_rfl
  h112 := by kernel_rfl
  h56 := by kernel_rfl
  h45 := by kernel_rfl
end Go.Proofs.Ytjbegiaceekgcaa.Eng

/-
  What is given is what the program does.
-/
namespace Go.Proofs.Ytjbegiaceekgcaa
open Go.ChangeShapes Go.WideShapes Go.ChangeAt Go.RowKit Go.Proofs.Ytjbegiaceekgcaa.Eng
set_option linter.unusedSimpArgs false
set_option linter.unusedVariables false
theorem ent_code : SqECode (xprog Try.prog [2000054, 127, 2000114, 2000097, 4000003, 2000033]) where
  h46 := by kernel_rfl
  h33 := by kernel_rfl
theorem ent_pure : ∀ args v, gEnt (args ++ List.replicate (2 - args.length) aundef) = some v → v.free = true ∧ v.strip = v ∧ PureOk Try.prog 46 args v
  | [], v, h => by simp [gEnt, aundef] at h
  | [a], v, h => by simp [gEnt, aundef] at h
  | [a, b], v, h => by
    have h' : gEnt [a, b] = some v := h
    clear h
    unfold gEnt at h'
    split at h'
    · rename_i xs i t e
      cases e
      split at h'
      · rename_i L hL
        split at h'
        · rename_i hc
          cases h'
          have hx := unints_eq hL
          subst hx
          obtain ⟨c1, c2, c3⟩ := hc
          obtain ⟨n, rfl⟩ : ∃ n : Nat, i = n := ⟨i.toNat, by omega⟩
          have hn : n < L.length := by omega
          rw [show ((n : Int)).toNat = n from rfl]
          have fr := ints_fr (L.set n t)
          have fr0 := ints_fr L
          refine ⟨by simp [AVal.free, fr], by simp [AVal.strip, freeL_strip fr], pure_of_run drawn ?_ (u46 ent_code hn c3 t _)⟩
          simp [stripL, AVal.strip, freeL, AVal.free, freeL_strip fr0, fr0]
        · cases h'
      · cases h'
    · cases h'
  | a :: b :: c :: l, v, h => by simp [gEnt] at h
theorem known : Known Try.prog [2000054, 127, 2000114, 2000097, 4000003, 1000095] (xprogG Try.prog [2000054, 127, 2000114, 2000097, 4000003, 1000095] [(46, 2, gEnt)]) :=
  known_xprogG _ _ _ (by
    intro q hq
    simp only [List.mem_singleton] at hq
    subst hq
    exact ⟨by decide, ent_pure⟩)
theorem ent_given (L : List Int) (i : Nat) (t : Int) (hi : i < L.length) (hn : L.length ≤ 1000) (σ : Store) : Run (xprogG Try.prog [2000054, 127, 2000114, 2000097, 4000003, 1000095] [(46, 2, gEnt)]) (.call 46) [.list 1 (ints L) none, .agg [.int .i64 (i : Int), .int .i64 t]] σ = some (.ret, [.list 1 (ints (L.set i t)) none], σ) := by
  have fr := ints_fr (L.set i t)
  have fr0 := ints_fr L
  have fs := freeL_strip fr
  have hX : xprogG Try.prog [2000054, 127, 2000114, 2000097, 4000003, 1000095] [(46, 2, gEnt)] 46 = some ⟨.given gEnt, 2, [.t 0]⟩ := rfl
  have key := call2 (X := xprogG Try.prog [2000054, 127, 2000114, 2000097, 4000003, 1000095] [(46, 2, gEnt)]) (a := .list 1 (ints L) none) (b := .agg [.int .i64 (i : Int), .int .i64 t]) (v := .list 1 (ints (L.set i t)) none) hX (by simp [AVal.strip, AVal.free, freeL_strip fr0, fr0]) rfl (by decide) (fun tm hl h0 h1 => by
    simp only [AVal.strip, stripL, freeL_strip fr0] at h0 h1
    match tm, hl with
    | [a, b], _ =>
      have ha : a = .list 1 (ints L) none := h0
      have hb : b = .agg [.int .i64 (i : Int), .int .i64 t] := h1
      subst ha; subst hb
      have hg : gEnt [.list 1 (ints L) none, .agg [.int .i64 (i : Int), .int .i64 t]] = some (.list 1 (ints (L.set i t)) none) := by
        have c : (0 : Int) ≤ (i : Int) ∧ (i : Int) < L.length ∧ L.length ≤ 1000 := ⟨by omega, by omega, hn⟩
        simp only [gEnt, unints_ints, c, and_self, if_true]
        rfl
      unfold Gives
      rw [Run_given, hg]
      rfl) (by simp [AVal.strip, AVal.free, fs, fr]) σ
  simpa [AVal.strip, fs] using key
end Go.Proofs.Ytjbegiaceekgcaa

/-
  SequenceHalls: its computed cells, one by one.
-/
namespace Go.Proofs.Ytjbegiaceekgcaa
theorem sequenceHalls_j0 : (Rows.sequenceHallsRow.inPlace == Try.checked.prog.inPlace 7) = true := by kernel_rfl
theorem sequenceHalls_j1 : (Rows.sequenceHallsRow.unfollowed == Try.checked.prog.unfollowed 7) = true := by kernel_rfl
theorem sequenceHalls_j2 : (Rows.sequenceHallsRow.recurses == Try.checked.prog.recurses 7) = true := by kernel_rfl
theorem sequenceHalls_j3 : (Rows.sequenceHallsRow.named == Try.checked.prog.varsNamed 7) = true := by kernel_rfl
theorem sequenceHalls_j4 : (Rows.sequenceHallsRow.plainKeys == Try.checked.prog.plainKeys) = true := by kernel_rfl
theorem sequenceHalls_j5 : (Rows.sequenceHallsRow.lifted == Try.checked.prog.liftsFinal) = true := by kernel_rfl
theorem sequenceHalls_j6 : (Try.checked.prog.stopsHeard) = true := by kernel_rfl
theorem sequenceHalls_j7 : (Try.checked.prog.mayEnter) = true := by kernel_rfl
theorem sequenceHalls_j8 : (laidOutB Try.checked.prog) = true := by kernel_rfl
theorem sequenceHalls_j9 : (mapsRowed Try.checked.prog) = true := by kernel_rfl
theorem sequenceHalls_joined : joinedFacts Try.checked.prog 7 Try.f7 Rows.sequenceHallsSpec Rows.sequenceHallsRow = true := by
  unfold joinedFacts
  rw [sequenceHalls_j0, sequenceHalls_j1, sequenceHalls_j2, sequenceHalls_j3, sequenceHalls_j4, sequenceHalls_j5, sequenceHalls_j6, sequenceHalls_j7, sequenceHalls_j8, sequenceHalls_j9]
  kernel_rfl
end Go.Proofs.Ytjbegiaceekgcaa
