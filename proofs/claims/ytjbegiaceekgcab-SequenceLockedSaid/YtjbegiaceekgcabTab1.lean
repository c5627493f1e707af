/-
  Votes: the signals that are in at least two of three sets, bit by bit.
-/
import Derived.Test.YtjbegiaceekgcabEngLoop
import Derived.Test.YtjbegiaceekgcabEng6
import Derived.Test.YtjbegiaceekgcabEng1
import Derived.Test.YtjbegiaceekgcabEng4
import Derived.Test.YtjbegiaceekgcabCode1
import Derived.Test.YtjbegiaceekgcabEngX
import Derived.Test.YtjbegiaceekgcabProg
import Derived.KernelRfl
import Derived.Test.YtjbegiaceekgcabEng2
import Derived.Test.YtjbegiaceekgcabRows
import Derived.Test.YtjbegiaceekgcabChecked
import Derived.Test.YtjbegiaceekgcabEngZ
import Derived.ProofKit
import Derived.JoinedOf
namespace Go.Proofs.Ytjbegiaceekgcab.Eng
def voteN (a b c : Nat) : Nat := a &&& b ||| a &&& c ||| b &&& c
def bitN (a k : Nat) : Nat := (a >>> k) &&& 1
def cnt3 (a b c k : Nat) : Nat := bitN a k + bitN b k + bitN c k
def stepV (a b c k out : Nat) : Nat := if 2 ≤ cnt3 a b c k then out + 2 ^ k else out
def refV (a b c : Nat) : Nat := stepV a b c 4 (stepV a b c 3 (stepV a b c 2 (stepV a b c 1 (stepV a b c 0 0))))
theorem vote_dec : ∀ a, a < 32 → ∀ b, b < 32 → ∀ c, c < 32 → voteN a b c = refV a b c := by decide +kernel
theorem vote_ab (t c : Nat) : voteN t t c = t := by
  unfold voteN
  apply Nat.eq_of_testBit_eq
  intro i
  simp only [Nat.testBit_or, Nat.testBit_and]
  cases t.testBit i <;> cases c.testBit i <;> rfl
theorem vote_ac (t b : Nat) : voteN t b t = t := by
  unfold voteN
  apply Nat.eq_of_testBit_eq
  intro i
  simp only [Nat.testBit_or, Nat.testBit_and]
  cases t.testBit i <;> cases b.testBit i <;> rfl
theorem vote_bc (t a : Nat) : voteN a t t = t := by
  unfold voteN
  apply Nat.eq_of_testBit_eq
  intro i
  simp only [Nat.testBit_or, Nat.testBit_and]
  cases t.testBit i <;> cases a.testBit i <;> rfl
/-- Whole numbers that are not below 0, and fit. -/
theorem wrap_nat {n : Nat} (h : n < 2 ^ 63) : IntKind.wrap .i64 (n : Int) = n := by
  have : (2:Nat)^63 = 9223372036854775808 := by decide
  simp [IntKind.wrap, IntKind.bits, IntKind.signed]
  omega
theorem ofInt_nat (n : Nat) : BitVec.ofInt 64 (n : Int) = BitVec.ofNat 64 n := by
  apply BitVec.eq_of_toNat_eq
  simp [BitVec.toNat_ofNat]
theorem and_nat {a b : Nat} (ha : a < 2 ^ 63) (hb : b < 2 ^ 63) : xbits .and .i64 (a : Int) (b : Int) = some ((a &&& b : Nat) : Int) := by
  have h : (a &&& b) < 2 ^ 63 := Nat.and_lt_two_pow _ hb
  have e : (BitVec.ofInt 64 (a : Int) &&& BitVec.ofInt 64 (b : Int)).toNat = a &&& b := by
    rw [ofInt_nat, ofInt_nat, BitVec.toNat_and, BitVec.toNat_ofNat, BitVec.toNat_ofNat, Nat.mod_eq_of_lt (by omega), Nat.mod_eq_of_lt (by omega)]
  show some _ = _
  rw [show IntKind.bits .i64 = 64 from rfl, e, wrap_nat h]
theorem or_nat {a b : Nat} (ha : a < 2 ^ 63) (hb : b < 2 ^ 63) : xbits .or .i64 (a : Int) (b : Int) = some ((a ||| b : Nat) : Int) := by
  have h : (a ||| b) < 2 ^ 63 := Nat.or_lt_two_pow ha hb
  have e : (BitVec.ofInt 64 (a : Int) ||| BitVec.ofInt 64 (b : Int)).toNat = a ||| b := by
    rw [ofInt_nat, ofInt_nat, BitVec.toNat_or, BitVec.toNat_ofNat, BitVec.toNat_ofNat, Nat.mod_eq_of_lt (by omega), Nat.mod_eq_of_lt (by omega)]
  show some _ = _
  rw [show IntKind.bits .i64 = 64 from rfl, e, wrap_nat h]
theorem shr_nat (a k : Nat) : (a : Int).fdiv (2 ^ k) = ((a >>> k : Nat) : Int) := by
  rw [Nat.shiftRight_eq_div_pow, Int.fdiv_eq_ediv_of_nonneg _ (Int.le_of_lt (Int.pow_pos (by omega)))]
  simp
theorem and1_nat {a : Nat} (ha : a < 2 ^ 63) : xbits .and .i64 (a : Int) 1 = some ((a &&& 1 : Nat) : Int) := and_nat ha (b := 1) (by decide)
def win (a b c : Int) : Bool := decide (b ≤ a) && decide (a ≤ c)
theorem win_iff {a b c : Int} : win a b c = true ↔ b ≤ a ∧ a ≤ c := by simp [win]
def firstNZ : List Int → Int
  | [] => 0
  | e :: l => if e = 0 then firstNZ l else e
/-- The error of a set of any plan. -/
def chk (a : Int) : Int := if win a 0 31 then 0 else 2
theorem wrp {n : Int} (h1 : -1000000000000000000 ≤ n) (h2 : n ≤ 1000000000000000000) : IntKind.i64.wrap n = n := by rw [wrap_i64] <;> omega
theorem bit_le (a k : Nat) : bitN a k ≤ 1 := Nat.and_le_right
theorem chk_ok {a : Int} (h : chk a = 0) : ∃ n : Nat, a = n ∧ n < 32 := by
  unfold chk at h
  by_cases c : win a 0 31 = true
  · rw [win_iff] at c
    exact ⟨a.toNat, by omega, by omega⟩
  · simp [c] at h
theorem chk_of {n : Nat} (h : n < 32) : chk (n : Int) = 0 := by
  have : win (n : Int) 0 31 = true := by rw [win_iff]; omega
  simp [chk, this]
def e3 (a b c : Int) : Int := firstNZ [chk a, chk b, chk c]
theorem e3_ok {a b c : Int} (h : e3 a b c = 0) : chk a = 0 ∧ chk b = 0 ∧ chk c = 0 := by
  unfold e3 firstNZ at h
  by_cases h1 : chk a = 0
  · simp only [h1, if_true, firstNZ] at h
    by_cases h2 : chk b = 0
    · simp only [h2, if_true] at h
      by_cases h3 : chk c = 0
      · exact ⟨h1, h2, h3⟩
      · simp [h3] at h
    · simp [h2] at h
  · simp [h1] at h
theorem e3_of {a b c : Int} (h1 : chk a = 0) (h2 : chk b = 0) (h3 : chk c = 0) : e3 a b c = 0 := by simp [e3, firstNZ, h1, h2, h3]
/-- How many of three sets differ from one. -/
def wrongs (a b c t : Int) : Int := (if a = t then 0 else 1) + (if b = t then 0 else 1) + (if c = t then 0 else 1)
theorem vote_right {a b c : Nat} {t : Int} (h : wrongs a b c t ≤ 1) : ((voteN a b c : Nat) : Int) = t := by
  unfold wrongs at h
  by_cases h1 : (a : Int) = t
  · by_cases h2 : (b : Int) = t
    · have : a = b := by omega
      subst this; rw [vote_ab]; exact h1
    · by_cases h3 : (c : Int) = t
      · have : a = c := by omega
        subst this; rw [vote_ac]; exact h1
      · simp [h1, h2, h3] at h
  · by_cases h2 : (b : Int) = t
    · by_cases h3 : (c : Int) = t
      · have : b = c := by omega
        subst this; rw [vote_bc]; exact h2
      · simp [h1, h2, h3] at h
    · by_cases h3 : (c : Int) = t <;> simp [h1, h2, h3] at h
end Go.Proofs.Ytjbegiaceekgcab.Eng

/-
  SEQUENCE: halls; mathematics.
-/
namespace Go.Proofs.Ytjbegiaceekgcab.Eng
set_option linter.unusedSimpArgs false
set_option linter.unusedVariables false
/-- A rule of a hall. -/
structure Hr where
  s : Int
  o : Int
  k : Int
def Hr.enc (r : Hr) : AVal := .agg [.int .i64 r.s, .int .i64 r.o, .int .i64 r.k]
def hrs (R : List Hr) : List AVal := R.map Hr.enc
theorem hrs_fr (R : List Hr) : freeL (hrs R) = true := by
  unfold hrs
  induction R with
  | nil => rfl
  | cons r l ih => simp [freeL, AVal.free, Hr.enc, ih]
@[simp] theorem hrs_len (R : List Hr) : (hrs R).length = R.length := by simp [hrs]
def HrsV (R : List Hr) (v : AVal) : Prop := v = .list 3 (hrs R) none ∨ (v = .nils ∧ R = [])
def IntV (L : List Int) (v : AVal) : Prop := v = .list 1 (ints L) none ∨ (v = .nils ∧ L = [])
theorem HrsV.free {R : List Hr} {v : AVal} (h : HrsV R v) : v.free = true ∧ v.strip = v := by
  rcases h with rfl | ⟨rfl, _⟩
  · exact ⟨by simp [AVal.free, hrs_fr], by simp [AVal.strip, freeL_strip (hrs_fr R)]⟩
  · exact ⟨rfl, rfl⟩
theorem IntV.free {L : List Int} {v : AVal} (h : IntV L v) : v.free = true ∧ v.strip = v := by
  rcases h with rfl | ⟨rfl, _⟩
  · exact ⟨by simp [AVal.free, ints_fr], by simp [AVal.strip, freeL_strip (ints_fr L)]⟩
  · exact ⟨rfl, rfl⟩
theorem HrsV.len {R : List Hr} {v : AVal} (h : HrsV R v) : xlen v = some (.int .i64 R.length) ∧ v.down = v := by
  rcases h with rfl | ⟨rfl, rfl⟩ <;> simp [xlen]
theorem IntV.len {L : List Int} {v : AVal} (h : IntV L v) : xlen v = some (.int .i64 L.length) ∧ v.down = v := by
  rcases h with rfl | ⟨rfl, rfl⟩ <;> simp [xlen, ints_len]
theorem HrsV.ne {R : List Hr} {v : AVal} (h : HrsV R v) (hn : R ≠ []) : v = .list 3 (hrs R) none := by
  rcases h with rfl | ⟨_, e⟩
  · rfl
  · exact absurd e hn
theorem IntV.ne {L : List Int} {v : AVal} (h : IntV L v) (hn : L ≠ []) : v = .list 1 (ints L) none := by
  rcases h with rfl | ⟨_, e⟩
  · rfl
  · exact absurd e hn
/-- The error of a step that no plan has. -/
def chs (a : Int) : Int := if win a 0 9 then 0 else 6
def Hr.e (r : Hr) : Int := firstNZ [chs r.s, chs r.o, if win r.k 0 1 then 0 else 15]
/-- The first item with an error: its index and its error. -/
def fiE {α : Type} (f : α → Int) : List α → Nat → Nat × Int
  | [], _ => (0, 0)
  | x :: l, i => if f x = 0 then fiE f l (i + 1) else (i, f x)
theorem fiE_zero {α : Type} {f : α → Int} : ∀ {l : List α} {i : Nat}, (fiE f l i).2 = 0 → (fiE f l i).1 = 0
  | [], _, _ => rfl
  | x :: l, i, h => by
    unfold fiE at h ⊢
    by_cases c : f x = 0
    · simp only [c, if_true] at h ⊢; exact fiE_zero h
    · simp [c] at h
/-- Is another machine in a step? -/
def oth (m s : Int) : List Int → Nat → Bool
  | [], _ => false
  | x :: l, i => if (i : Int) ≠ m ∧ x = s then true else oth m s l (i + 1)
def brk (L : List Int) (m : Nat) (r : Hr) : Bool := decide (L.getD m 0 = r.s) && (oth m r.o L 0 != decide (r.k = 1))
def fiB (p : Hr → Bool) : List Hr → Nat → Option Nat
  | [], _ => none
  | r :: l, i => if p r then some i else fiB p l (i + 1)
/-- The first machine for which a rule does not hold, from machine m on, of so many. -/
def bkn (R : List Hr) (L : List Int) : Nat → Nat → Option (Nat × Nat)
  | 0, _ => none
  | k + 1, m => match fiB (brk L m) R 0 with
    | some j => some (m, j)
    | none => bkn R L k (m + 1)
def bkV : Option (Nat × Nat) → AVal
  | none => .tup [.agg [.int .i64 0, .int .i64 0], .bool false]
  | some (m, k) => .tup [.agg [.int .i64 m, .int .i64 k], .bool true]
/-- A hall's error, with its index; that of the steps of its machines. -/
def hallE (M : Int) (R : List Hr) : Nat × Int := if firstNZ [if win M 1 6 then 0 else 2, if R.length ≤ 12 then 0 else 8] = 0 then fiE Hr.e R 0 else (0, firstNZ [if win M 1 6 then 0 else 2, if R.length ≤ 12 then 0 else 8])
def stepsE (M : Int) (R : List Hr) (L : List Int) : Int := firstNZ [(hallE M R).2, if (L.length : Int) = M then 0 else 10, (fiE chs L 0).2]
end Go.Proofs.Ytjbegiaceekgcab.Eng

/-
  A list that is copied.
-/
namespace Go.Proofs.Ytjbegiaceekgcab.Eng
set_option linter.unusedSimpArgs false
set_option linter.unusedVariables false
theorem ints_cells (L : List Int) : (ints L).flatMap AVal.cells = ints L := by
  induction L with
  | nil => rfl
  | cons a l ih => show [AVal.int .i64 a] ++ (ints l).flatMap AVal.cells = _; rw [ih]; rfl
theorem ints_ones (L : List Int) : ones (ints L) = true := by
  induction L with
  | nil => rfl
  | cons a l ih =>
    show (([AVal.int .i64 a].all AVal.one) && ones (ints l)) = true
    rw [ih]; rfl
theorem apV {L : List Int} (h0 : L ≠ []) (hn : L.length ≤ 1000000000) {k : Nat} {σ : Store} (hk : σ.get k = some (.tok 3 1 0)) : xappendV σ 3 1 8 (.list 1 [] (some k)) (.list 1 (ints L) none) = some (.vlist 3 1 σ.next L.length, (σ.put k .gone).new (.cells (ints L))) := by
  have e : ints L ≠ [] := by cases L with
    | nil => exact absurd rfl h0
    | cons a l => simp [ints]
  have hl := ints_len L
  have hc := ints_cells L
  have ho := ints_ones L
  generalize hM : ints L = M at *
  cases M with
  | nil => exact absurd rfl e
  | cons a l =>
    have h1 : (a :: l).length * 8 ≤ 1000000000000 := by omega
    have h2 : (a :: l).length ≤ 1000000000000 := by omega
    simp only [xappendV, AVal.down, xappendW, ho, hk, hc]
    simp only [h1, h2, and_self, if_true, true_and, hl]
    simp
    omega
end Go.Proofs.Ytjbegiaceekgcab.Eng

/-
  SEQUENCE: the steps after a machine entered one, of the reference: given.
-/
namespace Go.Proofs.Ytjbegiaceekgcab.Eng
set_option linter.unusedSimpArgs false
set_option linter.unusedVariables false
def unints : List AVal → Option (List Int)
  | [] => some []
  | .int .i64 n :: l => match unints l with
    | some L => some (n :: L)
    | none => none
  | _ => none
theorem unints_ints (L : List Int) : unints (ints L) = some L := by
  induction L with
  | nil => rfl
  | cons a l ih => show (match unints (ints l) with | some L => some (a :: L) | none => none) = _; rw [ih]
theorem unints_eq : ∀ {xs : List AVal} {L : List Int}, unints xs = some L → xs = ints L
  | [], L, h => by simp only [unints] at h; cases h; rfl
  | x :: l, L, h => by
    unfold unints at h
    split at h
    · exact absurd (by assumption) (List.cons_ne_nil x l)
    · rename_i n l' e
      cases e
      split at h
      · rename_i L' h'
        cases h
        rw [unints_eq h']; rfl
      · cases h
    · cases h
/-- What the reference's Entered hands back. -/
def gEnt : List AVal → Option AVal
  | [.list 1 xs none, .agg [.int .i64 i, .int .i64 t]] => match unints xs with
    | some L => if 0 ≤ i ∧ i < L.length ∧ L.length ≤ 1000 then some (.list 1 (ints (L.set i.toNat t)) none) else none
    | none => none
  | _ => none
section
variable {X : FuncId → Option XFunc} (hX : SrECode X)
include hX
theorem clone11 {L : List Int} (h0 : L ≠ []) (hn : L.length ≤ 1000000000) (σ : Store) :
    ∃ n τ, Run X (.callK 11) [.list 1 (ints L) none] σ = some (.ret, [.vlist 3 1 n L.length], τ) ∧ σ.next ≤ n ∧ n < τ.next ∧ τ.get n = some (.cells (ints L)) ∧ (∀ m, m < σ.next → τ.get m = σ.get m) := by
  obtain ⟨N, hN⟩ : ∃ N, σ.next = N := ⟨_, rfl⟩
  have hk : (σ.new (.tok 3 1 0)).get N = some (.tok 3 1 0) := by rw [Store.get_new, hN, Mem.put_self]
  have hap := apV h0 hn hk
  have e : Ends (Run X (.code xe11.body) (frame [.list 1 (ints L) none] 6) σ) .ret fun tm' σ' => tm'.length = 6 ∧ XOpd.eval tm' (.t 2) = .vlist 3 1 (N + 1) L.length ∧ σ' = ((σ.new (.tok 3 1 0)).put N .gone).new (.cells (ints L)) := by
    have hl : (frame [.list 1 (ints L) none] 6).length = 6 := rfl
    have h0 := frame_0 (.list 1 (ints L) none) [] 6
    have nx : (σ.new (.tok 3 1 0)).next = N + 1 := by show σ.next + 1 = _; rw [hN]
    rw [nx] at hap
    generalize frame [.list 1 (ints L) none] 6 = tm at *
    simp [xe11, hl, h0, hN, hap, fillR, chunks]
  obtain ⟨o1, p1, p2, p3⟩ := out_of e
  generalize outT X xe11.body _ _ = tm3 at *
  generalize outS X xe11.body _ _ = σ3 at *
  refine ⟨N + 1, _, Run_callK hX.h11 (by simp) o1 (by simp [xe11, xresult_one, xret_t, p2]), by omega, ?_, ?_, fun m hm => ?_⟩
  · rw [gc_all, p3]; show N + 1 < σ.next + 1 + 1; omega
  · rw [gc_all, p3, Store.get_new]
    have : ((σ.new (.tok 3 1 0)).put N .gone).next = N + 1 := by show σ.next + 1 = _; rw [hN]
    rw [this, Mem.put_self]
  · rw [gc_all, p3, Store.get_new, Mem.put_ne _ (by show σ.next + 1 ≠ m; omega), Store.get_put, Mem.put_ne _ (by omega), Store.get_new, Mem.put_ne _ (by omega)]
theorem u14 {L : List Int} {i : Nat} (hi : i < L.length) (hn : L.length ≤ 1000) (t : Int) (σ : Store) : Run X (.call 14) [.list 1 (ints L) none, .agg [.int .i64 (i : Int), .int .i64 t]] σ = some (.ret, [.list 1 (ints (L.set i t)) none], σ) := by
  have fr := ints_fr L
  have fs := freeL_strip fr
  refine call2S (a := .list 1 (ints L) none) (b := .agg [.int .i64 (i : Int), .int .i64 t]) (y := .list 1 (ints (L.set i t)) none) hX.h14 (by simp [AVal.strip, AVal.free, fr, fs]) rfl (by decide) (fun tm hl h0 h1 => ?_) σ
  simp only [AVal.strip, stripL, fs] at h0 h1
  replace hl : tm.length = 15 := hl
  have hne : L ≠ [] := by intro e; simp [e] at hi
  obtain ⟨n, τ, k1, k2, k3, k4, k5⟩ := clone11 hX hne (by omega) ⟨[(0, .cells [.int .i64 (i : Int), .int .i64 t])], 1⟩
  have c0 : τ.get 0 = some (.cells [.int .i64 (i : Int), .int .i64 t]) := k5 0 (by show 0 < 1; omega)
  have hi' : i < (ints L).length := by rw [ints_len]; exact hi
  have hi2 : i + 1 ≤ (ints L).length := hi'
  have hset : (ints L).set i (.int .i64 t) = ints (L.set i t) := by simp [ints, List.map_set]
  have hlen : (L.set i t).length = L.length := List.length_set
  have hse : ∀ σ : Store, σ.get n = some (.cells (ints (L.set i t))) → sealR σ (.vlist 3 1 n L.length) = some (.list 1 (ints (L.set i t)) none) := fun σ h => by
    have := sealR_vints (e := 3) h
    rwa [hlen] at this
  have k2' : 1 ≤ n := k2
  obtain ⟨n', rfl⟩ : ∃ n', n = n' + 1 := ⟨n - 1, by omega⟩
  have hseal := hse (τ.put (n' + 1) (.cells (ints (L.set i t)))) (by rw [Store.get_put, Mem.put_self])
  unfold Seals
  simp [xe14, hl, h0, h1, k1, k4, c0, hi, hi', hi2, hset, hseal, xload, AVal.cells, AVal.one, sealsR, sealsO, xresult_one, xret_t, setR, Store.empty, Store.new, putL, look]
end
end Go.Proofs.Ytjbegiaceekgcab.Eng

/-
  The example's plan.
-/
namespace Go.Proofs.Ytjbegiaceekgcab.Eng
def sqOpen : ByteArray := "open".toUTF8
def sqSpeed : ByteArray := "speed".toUTF8
def sqRest : ByteArray := "rest".toUTF8
def sqStart : ByteArray := "start".toUTF8
def sqTurbine : ByteArray := "turbine".toUTF8
def sqStop : ByteArray := "stop".toUTF8
def sqBrake : ByteArray := "brake".toUTF8
def exPlan : AVal := .agg [.list 1 [.str sqOpen, .str sqSpeed] none, .int .i64 0, .list 14 [.agg [.str sqRest, .bool true, .int .i64 0, .int .i64 0, .int .i64 0, .int .i64 1, .list 1 [.int .i64 1] none, .int .i64 0, .int .i64 0, .int .i64 0, .int .i64 0, .int .i64 0, .int .i64 0, .int .i64 0], .agg [.str sqStart, .bool false, .int .i64 0, .int .i64 3, .int .i64 60, .int .i64 0, .nils, .int .i64 3, .int .i64 0, .int .i64 3, .int .i64 0, .int .i64 30, .int .i64 2, .int .i64 3], .agg [.str sqTurbine, .bool false, .int .i64 2, .int .i64 3, .int .i64 0, .int .i64 3, .list 1 [.int .i64 3] none, .int .i64 0, .int .i64 0, .int .i64 0, .int .i64 0, .int .i64 0, .int .i64 0, .int .i64 0], .agg [.str sqStop, .bool false, .int .i64 0, .int .i64 3, .int .i64 40, .int .i64 0, .nils, .int .i64 0, .int .i64 2, .int .i64 0, .int .i64 3, .int .i64 20, .int .i64 0, .int .i64 4], .agg [.str sqBrake, .bool false, .int .i64 0, .int .i64 4, .int .i64 90, .int .i64 0, .nils, .int .i64 0, .int .i64 1, .int .i64 0, .int .i64 3, .int .i64 50, .int .i64 0, .int .i64 0]] none]
def exHall : AVal := .agg [.int .i64 2, .list 3 [.agg [.int .i64 2, .int .i64 1, .int .i64 0], .agg [.int .i64 3, .int .i64 0, .int .i64 1]] none]
def exRest : AVal := .agg [.str sqRest, .bool true, .int .i64 0, .int .i64 0, .int .i64 0, .int .i64 1, .list 1 [.int .i64 1] none, .int .i64 0, .int .i64 0, .int .i64 0, .int .i64 0, .int .i64 0, .int .i64 0, .int .i64 0]
def exTurb : AVal := .agg [.str sqTurbine, .bool false, .int .i64 2, .int .i64 3, .int .i64 0, .int .i64 3, .list 1 [.int .i64 3] none, .int .i64 0, .int .i64 0, .int .i64 0, .int .i64 0, .int .i64 0, .int .i64 0, .int .i64 0]
def exM : AVal := .agg [.list 1 [.str sqOpen, .str sqSpeed] none, .int .i64 0, .list 14 [.agg [.str sqRest, .bool true, .int .i64 0, .int .i64 0, .int .i64 0, .int .i64 1, .list 1 [.int .i64 1] none, .int .i64 0, .int .i64 0, .int .i64 0, .int .i64 0, .int .i64 0, .int .i64 0, .int .i64 0], .agg [.str sqStart, .bool false, .int .i64 0, .int .i64 3, .int .i64 60, .int .i64 0, .nils, .int .i64 3, .int .i64 0, .int .i64 3, .int .i64 0, .int .i64 30, .int .i64 2, .int .i64 3], .agg [.str sqTurbine, .bool false, .int .i64 2, .int .i64 3, .int .i64 0, .int .i64 3, .list 1 [.int .i64 3] none, .int .i64 0, .int .i64 0, .int .i64 0, .int .i64 0, .int .i64 0, .int .i64 0, .int .i64 0], .agg [.str sqStop, .bool false, .int .i64 0, .int .i64 3, .int .i64 40, .int .i64 0, .nils, .int .i64 0, .int .i64 2, .int .i64 0, .int .i64 3, .int .i64 20, .int .i64 0, .int .i64 4], .agg [.str sqBrake, .bool false, .int .i64 0, .int .i64 4, .int .i64 90, .int .i64 0, .nils, .int .i64 0, .int .i64 1, .int .i64 0, .int .i64 3, .int .i64 50, .int .i64 0, .int .i64 0]] none, .int .i64 (-1), .bool false]
end Go.Proofs.Ytjbegiaceekgcab.Eng

/-
  Examples: calls.
-/
namespace Go.Proofs.Ytjbegiaceekgcab.Eng
open Go.Proofs
theorem exam26 : run (xprogG Try.prog [2000095, 107, 2000069, 2000038, 4000003, 1000033] [(14, 2, gEnt)]) 64 (.call 26) [] Store.empty = some (.ret, [exPlan], Store.empty) := by kernel_rfl
theorem exam28 : run (xprogG Try.prog [2000095, 107, 2000069, 2000038, 4000003, 1000033] [(14, 2, gEnt)]) 64 (.call 28) [] Store.empty = some (.ret, [exHall], Store.empty) := by kernel_rfl
theorem exam9 : run (xprogG Try.prog [2000095, 107, 2000069, 2000038, 4000003, 1000033] [(14, 2, gEnt)]) 128 (.call 9) [exHall, .list 1 [.int .i64 2, .int .i64 1] none] Store.empty = some (.ret, [.tup [.agg [.int .i64 0, .int .i64 0], .int .i64 0]], Store.empty) := by kernel_rfl
theorem exam9b : run (xprogG Try.prog [2000095, 107, 2000069, 2000038, 4000003, 1000033] [(14, 2, gEnt)]) 128 (.call 9) [exHall, .list 1 [.int .i64 0, .int .i64 0] none] Store.empty = some (.ret, [.tup [.agg [.int .i64 0, .int .i64 0], .int .i64 12]], Store.empty) := by kernel_rfl
theorem exam29 : run (xprogG Try.prog [2000095, 107, 2000069, 2000038, 4000003, 1000033] [(14, 2, gEnt)]) 64 (.call 29) [.list 1 [.int .i64 1] none, .list 1 [.int .i64 1] none] Store.empty = some (.ret, [.bool true], Store.empty) := by kernel_rfl
theorem exam24 : run (xprogG Try.prog [2000095, 107, 2000069, 2000038, 4000003, 1000033] [(14, 2, gEnt)]) 32 (.call 24) [] Store.empty = some (.ret, [.agg [.int .i64 (-1), .bool false]], Store.empty) := by kernel_rfl
end Go.Proofs.Ytjbegiaceekgcab.Eng

/-
  Examples: calls.
-/
namespace Go.Proofs.Ytjbegiaceekgcab.Eng
open Go.Proofs
theorem exam42 : run (xprogG Try.prog [2000095, 107, 2000069, 2000038, 4000003, 1000033] [(14, 2, gEnt)]) 512 (.call 42) [exPlan, .agg [.int .i64 0, .int .i64 0], .agg [.int .i64 (-1), .bool false]] Store.empty = some (.ret, [.tup [exM, .int .i64 0]], Store.empty) := by kernel_rfl
end Go.Proofs.Ytjbegiaceekgcab.Eng

/-
  Examples: calls.
-/
namespace Go.Proofs.Ytjbegiaceekgcab.Eng
open Go.Proofs
theorem exam46 : run (xprogG Try.prog [2000095, 107, 2000069, 2000038, 4000003, 1000033] [(14, 2, gEnt)]) 512 (.call 46) [exM, .int .i64 2, .agg [.int .i64 0, .int .i64 0]] Store.empty = some (.ret, [.list 2 [.agg [.list 1 [.int .i64 1] none, .int .i64 31], .agg [.list 1 [.int .i64 1, .int .i64 3, .int .i64 1] none, .int .i64 83], .agg [.list 1 [.int .i64 1, .int .i64 3, .int .i64 1, .int .i64 3, .int .i64 1] none, .int .i64 135], .agg [.list 1 [.int .i64 1, .int .i64 3, .int .i64 1, .int .i64 3, .int .i64 1, .int .i64 3, .int .i64 1] none, .int .i64 187], .agg [.list 1 [.int .i64 1, .int .i64 3, .int .i64 1, .int .i64 3, .int .i64 1, .int .i64 3, .int .i64 1, .int .i64 3, .int .i64 1] none, .int .i64 239]] none], Store.empty) := by kernel_rfl
end Go.Proofs.Ytjbegiaceekgcab.Eng

/-
  Examples: calls.
-/
namespace Go.Proofs.Ytjbegiaceekgcab.Eng
open Go.Proofs
theorem exam43 : run (xprogG Try.prog [2000095, 107, 2000069, 2000038, 4000003, 1000033] [(14, 2, gEnt)]) 64 (.call 43) [] Store.empty = some (.ret, [.agg [.int .i64 (-1), .bool false]], Store.empty) := by kernel_rfl
theorem exam36 : run (xprogG Try.prog [2000095, 107, 2000069, 2000038, 4000003, 1000033] [(14, 2, gEnt)]) 64 (.call 36) [.int .i64 2, .int .i64 5] Store.empty = some (.ret, [.int .i64 0], Store.empty) := by kernel_rfl
theorem exam35 : run (xprogG Try.prog [2000095, 107, 2000069, 2000038, 4000003, 1000033] [(14, 2, gEnt)]) 128 (.call 35) [.list 1 [.int .i64 0, .int .i64 0] none] Store.empty = some (.ret, [.int .i64 0], Store.empty) := by kernel_rfl
theorem exam45 : run (xprogG Try.prog [2000095, 107, 2000069, 2000038, 4000003, 1000033] [(14, 2, gEnt)]) 64 (.call 45) [exM, .agg [.int .i64 0, .int .i64 0]] Store.empty = some (.ret, [exRest], Store.empty) := by kernel_rfl
theorem exam44 : run (xprogG Try.prog [2000095, 107, 2000069, 2000038, 4000003, 1000033] [(14, 2, gEnt)]) 64 (.call 44) [exRest] Store.empty = some (.ret, [.bool true], Store.empty) := by kernel_rfl
theorem exam44b : run (xprogG Try.prog [2000095, 107, 2000069, 2000038, 4000003, 1000033] [(14, 2, gEnt)]) 64 (.call 44) [exTurb] Store.empty = some (.ret, [.bool true], Store.empty) := by kernel_rfl
theorem exam47 : run (xprogG Try.prog [2000095, 107, 2000069, 2000038, 4000003, 1000033] [(14, 2, gEnt)]) 256 (.call 47) [.list 2 [.agg [.list 1 [.int .i64 1] none, .int .i64 31], .agg [.list 1 [.int .i64 1, .int .i64 3, .int .i64 1] none, .int .i64 83], .agg [.list 1 [.int .i64 1, .int .i64 3, .int .i64 1, .int .i64 3, .int .i64 1] none, .int .i64 135], .agg [.list 1 [.int .i64 1, .int .i64 3, .int .i64 1, .int .i64 3, .int .i64 1, .int .i64 3, .int .i64 1] none, .int .i64 187], .agg [.list 1 [.int .i64 1, .int .i64 3, .int .i64 1, .int .i64 3, .int .i64 1, .int .i64 3, .int .i64 1, .int .i64 3, .int .i64 1] none, .int .i64 239]] none, .fn 48 [] []] Store.empty = some (.ret, [.agg [.list 1 [.int .i64 1] none, .int .i64 31]], Store.empty) := by kernel_rfl
end Go.Proofs.Ytjbegiaceekgcab.Eng

/-
  Examples: calls.
-/
namespace Go.Proofs.Ytjbegiaceekgcab.Eng
open Go.Proofs
theorem exam25 : run (xprogG Try.prog [2000095, 107, 2000069, 2000038, 4000003, 1000033] [(14, 2, gEnt)]) 512 (.call 25) [exPlan, .agg [.int .i64 1, .int .i64 0], .agg [.int .i64 (-1), .bool false, .int .i64 (-1)]] Store.empty = some (.ret, [.tup [.agg [.int .i64 2, .int .i64 3], .int .i64 30, .int .i64 0]], Store.empty) := by kernel_rfl
end Go.Proofs.Ytjbegiaceekgcab.Eng

/-
  Examples: calls.
-/
namespace Go.Proofs.Ytjbegiaceekgcab.Eng
open Go.Proofs
theorem exam27 : run (xprogG Try.prog [2000095, 107, 2000069, 2000038, 4000003, 1000033] [(14, 2, gEnt)]) 512 (.call 27) [exPlan, .agg [.int .i64 2, .int .i64 3], .agg [.int .i64 1, .bool true]] Store.empty = some (.ret, [.tup [.list 2 [.agg [.int .i64 3, .int .i64 3], .agg [.int .i64 4, .int .i64 0], .agg [.int .i64 0, .int .i64 0]] none, .int .i64 91, .int .i64 0]], Store.empty) := by kernel_rfl
end Go.Proofs.Ytjbegiaceekgcab.Eng

/-
  The examples hold.
-/
namespace Go.Proofs.Ytjbegiaceekgcab.Eng
open Go.Proofs
set_option linter.unusedSimpArgs false
set_option linter.unusedVariables false
theorem xawX : SrAwXCode (xprogG Try.prog [2000095, 107, 2000069, 2000038, 4000003, 1000033] [(14, 2, gEnt)]) where
  h5 := by kernel_rfl
  h21 := by kernel_rfl
theorem ex_any {f : FuncId} {args : List AVal} {v : AVal} {n : Nat} (hf : freeL (stripL args) = true) (h : run (xprogG Try.prog [2000095, 107, 2000069, 2000038, 4000003, 1000033] [(14, 2, gEnt)]) n (.call f) args Store.empty = some (.ret, [v], Store.empty)) (σ : Store) : Run (xprogG Try.prog [2000095, 107, 2000069, 2000038, 4000003, 1000033] [(14, 2, gEnt)]) (.call f) args σ = some (.ret, [v], σ) :=
  pure_any hf ((Run_iff _ _ _ _ _).mpr ⟨_, h⟩) σ
theorem call31 {X : FuncId → Option XFunc} (hX : SrAwXCode X)
    (ea : ∀ σ, Run X (.call 42) [exPlan, .agg [.int .i64 0, .int .i64 0], .agg [.int .i64 (-1), .bool false]] σ = some (.ret, [.tup [exM, .int .i64 0]], σ))
    (eb : ∀ σ, Run X (.call 46) [exM, .int .i64 2, .agg [.int .i64 0, .int .i64 0]] σ = some (.ret, [.list 2 [.agg [.list 1 [.int .i64 1] none, .int .i64 31], .agg [.list 1 [.int .i64 1, .int .i64 3, .int .i64 1] none, .int .i64 83], .agg [.list 1 [.int .i64 1, .int .i64 3, .int .i64 1, .int .i64 3, .int .i64 1] none, .int .i64 135], .agg [.list 1 [.int .i64 1, .int .i64 3, .int .i64 1, .int .i64 3, .int .i64 1, .int .i64 3, .int .i64 1] none, .int .i64 187], .agg [.list 1 [.int .i64 1, .int .i64 3, .int .i64 1, .int .i64 3, .int .i64 1, .int .i64 3, .int .i64 1, .int .i64 3, .int .i64 1] none, .int .i64 239]] none], σ))
    (ec : ∀ σ, Run X (.call 43) [] σ = some (.ret, [.agg [.int .i64 (-1), .bool false]], σ))
    (ed : ∀ σ, Run X (.call 36) [.int .i64 2, .int .i64 5] σ = some (.ret, [.int .i64 0], σ))
    (ee : ∀ σ, Run X (.call 35) [.list 1 [.int .i64 0, .int .i64 0] none] σ = some (.ret, [.int .i64 0], σ))
    (ef : ∀ σ, Run X (.call 45) [exM, .agg [.int .i64 0, .int .i64 0]] σ = some (.ret, [exRest], σ))
    (eg : ∀ σ, Run X (.call 44) [exRest] σ = some (.ret, [.bool true], σ))
    (eh : ∀ σ, Run X (.call 44) [exTurb] σ = some (.ret, [.bool true], σ))
    (ei : ∀ σ, Run X (.call 47) [.list 2 [.agg [.list 1 [.int .i64 1] none, .int .i64 31], .agg [.list 1 [.int .i64 1, .int .i64 3, .int .i64 1] none, .int .i64 83], .agg [.list 1 [.int .i64 1, .int .i64 3, .int .i64 1, .int .i64 3, .int .i64 1] none, .int .i64 135], .agg [.list 1 [.int .i64 1, .int .i64 3, .int .i64 1, .int .i64 3, .int .i64 1, .int .i64 3, .int .i64 1] none, .int .i64 187], .agg [.list 1 [.int .i64 1, .int .i64 3, .int .i64 1, .int .i64 3, .int .i64 1, .int .i64 3, .int .i64 1, .int .i64 3, .int .i64 1] none, .int .i64 239]] none, .fn 48 [] []] σ = some (.ret, [.agg [.list 1 [.int .i64 1] none, .int .i64 31]], σ)) (σ : Store) :
    Run X (.call 21) [exPlan, .agg [.int .i64 0, .int .i64 0], .int .i64 2] σ = some (.ret, [.tup [.list 1 [.int .i64 1] none, .int .i64 31, .int .i64 0]], σ) := by
  have st : exPlan.strip = exPlan := by simp [exPlan, AVal.strip, stripL]
  have fr : exPlan.free = true := by simp [exPlan, AVal.free, freeL]
  have st2 : exM.strip = exM := by simp [exM, AVal.strip, stripL]
  have fr2 : exM.free = true := by simp [exM, AVal.free, freeL]
  have st3 : exRest.strip = exRest := by simp [exRest, AVal.strip, stripL]
  have fr3 : exRest.free = true := by simp [exRest, AVal.free, freeL]
  have st4 : exTurb.strip = exTurb := by simp [exTurb, AVal.strip, stripL]
  have fr4 : exTurb.free = true := by simp [exTurb, AVal.free, freeL]
  have ee' : ∀ t σ, Run X (.call 35) [.list 1 [.int .i64 0, .int .i64 0] t] σ = some (.ret, [.int .i64 0], σ) := fun t σ => by rw [call_stripped rfl]; exact ee σ
  refine call3 (a := exPlan) (b := .agg [.int .i64 0, .int .i64 0]) (c := .int .i64 2) (v := .tup [.list 1 [.int .i64 1] none, .int .i64 31, .int .i64 0]) hX.h21 (by rw [st]; exact fr) rfl rfl (by decide) (fun tm hl h0 h1 h2 => ?_) rfl σ
  replace hl : tm.length = 63 := hl
  simp only [AVal.strip, stripL, st] at h0 h1 h2
  have g1 : exPlan = .agg [.list 1 [.str sqOpen, .str sqSpeed] none, .int .i64 0, .list 14 [.agg [.str sqRest, .bool true, .int .i64 0, .int .i64 0, .int .i64 0, .int .i64 1, .list 1 [.int .i64 1] none, .int .i64 0, .int .i64 0, .int .i64 0, .int .i64 0, .int .i64 0, .int .i64 0, .int .i64 0], .agg [.str sqStart, .bool false, .int .i64 0, .int .i64 3, .int .i64 60, .int .i64 0, .nils, .int .i64 3, .int .i64 0, .int .i64 3, .int .i64 0, .int .i64 30, .int .i64 2, .int .i64 3], .agg [.str sqTurbine, .bool false, .int .i64 2, .int .i64 3, .int .i64 0, .int .i64 3, .list 1 [.int .i64 3] none, .int .i64 0, .int .i64 0, .int .i64 0, .int .i64 0, .int .i64 0, .int .i64 0, .int .i64 0], .agg [.str sqStop, .bool false, .int .i64 0, .int .i64 3, .int .i64 40, .int .i64 0, .nils, .int .i64 0, .int .i64 2, .int .i64 0, .int .i64 3, .int .i64 20, .int .i64 0, .int .i64 4], .agg [.str sqBrake, .bool false, .int .i64 0, .int .i64 4, .int .i64 90, .int .i64 0, .nils, .int .i64 0, .int .i64 1, .int .i64 0, .int .i64 3, .int .i64 50, .int .i64 0, .int .i64 0]] none] := rfl
  have g2 : exM = .agg [.list 1 [.str sqOpen, .str sqSpeed] none, .int .i64 0, .list 14 [.agg [.str sqRest, .bool true, .int .i64 0, .int .i64 0, .int .i64 0, .int .i64 1, .list 1 [.int .i64 1] none, .int .i64 0, .int .i64 0, .int .i64 0, .int .i64 0, .int .i64 0, .int .i64 0, .int .i64 0], .agg [.str sqStart, .bool false, .int .i64 0, .int .i64 3, .int .i64 60, .int .i64 0, .nils, .int .i64 3, .int .i64 0, .int .i64 3, .int .i64 0, .int .i64 30, .int .i64 2, .int .i64 3], .agg [.str sqTurbine, .bool false, .int .i64 2, .int .i64 3, .int .i64 0, .int .i64 3, .list 1 [.int .i64 3] none, .int .i64 0, .int .i64 0, .int .i64 0, .int .i64 0, .int .i64 0, .int .i64 0, .int .i64 0], .agg [.str sqStop, .bool false, .int .i64 0, .int .i64 3, .int .i64 40, .int .i64 0, .nils, .int .i64 0, .int .i64 2, .int .i64 0, .int .i64 3, .int .i64 20, .int .i64 0, .int .i64 4], .agg [.str sqBrake, .bool false, .int .i64 0, .int .i64 4, .int .i64 90, .int .i64 0, .nils, .int .i64 0, .int .i64 1, .int .i64 0, .int .i64 3, .int .i64 50, .int .i64 0, .int .i64 0]] none, .int .i64 (-1), .bool false] := rfl
  have g3 : exTurb = .agg [.str sqTurbine, .bool false, .int .i64 2, .int .i64 3, .int .i64 0, .int .i64 3, .list 1 [.int .i64 3] none, .int .i64 0, .int .i64 0, .int .i64 0, .int .i64 0, .int .i64 0, .int .i64 0, .int .i64 0] := rfl
  rw [g1] at h0 ea
  rw [g2] at ea eb ef
  rw [g3] at eh
  rw [g1] at st fr
  rw [g2] at st2 fr2
  rw [g3] at st4 fr4
  unfold Gives
  simp [xf21, hl, h0, h1, h2, ea, eb, ec, ed, ee', ef, eg, eh, ei, st, fr, st2, fr2, st3, fr3, st4, fr4, xlen, xload, xresult, xrets, xret_t, ix1, ix2, Store.empty, Store.new, Store.put, Store.get, look, putL, setR, Store.only, Store.merge, touch, wrote, upTo, isIn, okRec, hits, capsOf, xcaps, stripL, AVal.strip, freeL, AVal.free, fillR, chunks, mkV, List.filter]
theorem awake8 {X : FuncId → Option XFunc} (hX : SrAwXCode X) (ea : ∀ σ, Run X (.call 26) [] σ = some (.ret, [exPlan], σ)) (eb : ∀ σ, Run X (.call 24) [] σ = some (.ret, [.agg [.int .i64 (-1), .bool false]], σ))
    (ec : ∀ σ, Run X (.call 25) [exPlan, .agg [.int .i64 1, .int .i64 0], .agg [.int .i64 (-1), .bool false, .int .i64 (-1)]] σ = some (.ret, [.tup [.agg [.int .i64 2, .int .i64 3], .int .i64 30, .int .i64 0]], σ))
    (ed : ∀ σ, Run X (.call 27) [exPlan, .agg [.int .i64 2, .int .i64 3], .agg [.int .i64 1, .bool true]] σ = some (.ret, [.tup [.list 2 [.agg [.int .i64 3, .int .i64 3], .agg [.int .i64 4, .int .i64 0], .agg [.int .i64 0, .int .i64 0]] none, .int .i64 91, .int .i64 0]], σ))
    (ee : ∀ σ, Run X (.call 21) [exPlan, .agg [.int .i64 0, .int .i64 0], .int .i64 2] σ = some (.ret, [.tup [.list 1 [.int .i64 1] none, .int .i64 31, .int .i64 0]], σ))
    (ef : ∀ σ, Run X (.call 28) [] σ = some (.ret, [exHall], σ))
    (eg : ∀ σ, Run X (.call 9) [exHall, .list 1 [.int .i64 2, .int .i64 1] none] σ = some (.ret, [.tup [.agg [.int .i64 0, .int .i64 0], .int .i64 0]], σ))
    (eh : ∀ σ, Run X (.call 9) [exHall, .list 1 [.int .i64 0, .int .i64 0] none] σ = some (.ret, [.tup [.agg [.int .i64 0, .int .i64 0], .int .i64 12]], σ))
    (ei : ∀ σ, Run X (.call 29) [.list 1 [.int .i64 1] none, .list 1 [.int .i64 1] none] σ = some (.ret, [.bool true], σ)) (σ : Store) : Run X (.call 5) [] σ = some (.ret, [.bool true], σ) := by
  have st : exPlan.strip = exPlan := by simp [exPlan, AVal.strip, stripL]
  have fr : exPlan.free = true := by simp [exPlan, AVal.free, freeL]
  have st2 : exHall.strip = exHall := by simp [exHall, AVal.strip, stripL]
  have fr2 : exHall.free = true := by simp [exHall, AVal.free, freeL]
  have eg' : ∀ t σ, Run X (.call 9) [exHall, .list 1 [.int .i64 2, .int .i64 1] t] σ = some (.ret, [.tup [.agg [.int .i64 0, .int .i64 0], .int .i64 0]], σ) := fun t σ => by rw [call_stripped (by simp [fr2, stripL, AVal.strip, st2, freeL, AVal.free])]; simpa [stripL, st2, AVal.strip] using eg σ
  have eh' : ∀ t σ, Run X (.call 9) [exHall, .list 1 [.int .i64 0, .int .i64 0] t] σ = some (.ret, [.tup [.agg [.int .i64 0, .int .i64 0], .int .i64 12]], σ) := fun t σ => by rw [call_stripped (by simp [fr2, stripL, AVal.strip, st2, freeL, AVal.free])]; simpa [stripL, st2, AVal.strip] using eh σ
  have ei' : ∀ t σ, Run X (.call 29) [.list 1 [.int .i64 1] none, .list 1 [.int .i64 1] t] σ = some (.ret, [.bool true], σ) := fun t σ => by rw [call_stripped rfl]; exact ei σ
  refine call_pure (v := .bool true) hX.h5 rfl ?_ rfl σ
  have hl : (stripL [] ++ List.replicate (xf5.ntmps - (stripL []).length) aundef).length = 100 := by simp [stripL, xf5]
  generalize stripL [] ++ List.replicate (xf5.ntmps - (stripL []).length) aundef = tm at *
  unfold Gives
  simp [xf5, hl, ea, eb, ec, ed, ee, ef, eg', eh', ei', st, fr, st2, fr2, Store.empty, Store.new, Store.put, Store.get, look, putL, setR, Store.only, Store.merge, touch, wrote, upTo, isIn, okRec, hits, capsOf, xcaps, stripL, AVal.strip, freeL, AVal.free, fillR, chunks, mkV, List.filter]
theorem awake_true (σ : Store) : Run (xprogG Try.prog [2000095, 107, 2000069, 2000038, 4000003, 1000033] [(14, 2, gEnt)]) (.call 5) [] σ = some (.ret, [.bool true], σ) :=
  awake8 xawX (ex_any rfl exam26) (ex_any rfl exam24) (ex_any (by simp [exPlan, AVal.strip, stripL, AVal.free, freeL]) exam25) (ex_any (by simp [exPlan, AVal.strip, stripL, AVal.free, freeL]) exam27) (call31 xawX (ex_any (by simp [exPlan, AVal.strip, stripL, AVal.free, freeL]) exam42) (ex_any (by simp [exM, AVal.strip, stripL, AVal.free, freeL]) exam46) (ex_any rfl exam43) (ex_any rfl exam36) (ex_any rfl exam35) (ex_any (by simp [exM, AVal.strip, stripL, AVal.free, freeL]) exam45) (ex_any (by simp [exRest, AVal.strip, stripL, AVal.free, freeL]) exam44) (ex_any (by simp [exTurb, AVal.strip, stripL, AVal.free, freeL]) exam44b) (ex_any rfl exam47)) (ex_any rfl exam28) (ex_any (by simp [exHall, AVal.strip, stripL, AVal.free, freeL]) exam9) (ex_any (by simp [exHall, AVal.strip, stripL, AVal.free, freeL]) exam9b) (ex_any rfl exam29) σ
end Go.Proofs.Ytjbegiaceekgcab.Eng

/-
  What the rows share.
-/
namespace Go.Proofs.Ytjbegiaceekgcab
open Go.ChangeShapes Go.WideShapes Go.ChangeAt Go.RowKit Go.Proofs.Ytjbegiaceekgcab.Eng
set_option linter.unusedSimpArgs false
set_option linter.unusedVariables false

theorem own : ownKnob Try.prog.godebug = none := by kernel_rfl
theorem laid : laidOutB Try.prog = true := by kernel_rfl
theorem rowed : mapsRowed Try.prog = true := by kernel_rfl
theorem sliced : slicesOk Try.prog = true := by kernel_rfl
theorem drawn : Try.prog.follows .mixedOrders = true := by kernel_rfl

theorem awake_run (σ : Store) : Run (xprogG Try.prog [2000095, 107, 2000069, 2000038, 4000003, 1000033] [(14, 2, gEnt)]) (.call 5) [] σ = some (.ret, [.bool true], σ) := awake_true σ
end Go.Proofs.Ytjbegiaceekgcab

/-
  SEQUENCE: interlocked; mathematics.
-/
namespace Go.Proofs.Ytjbegiaceekgcab.Eng
set_option linter.unusedSimpArgs false
set_option linter.unusedVariables false
/-- An entry: a machine, a step. -/
def ent (x : Int × Int) : AVal := .agg [.int .i64 x.1, .int .i64 x.2]
def ents (l : List (Int × Int)) : List AVal := l.map ent
theorem ents_fr (l : List (Int × Int)) : freeL (ents l) = true := by
  induction l with
  | nil => rfl
  | cons r l ih =>
    show (true && freeL (ents l)) = true
    rw [ih]; rfl
theorem ents_len (l : List (Int × Int)) : (ents l).length = l.length := by simp [ents]
def EntV (l : List (Int × Int)) (v : AVal) : Prop := v = .list 2 (ents l) none ∨ (v = .nils ∧ l = [])
theorem EntV.free {l : List (Int × Int)} {v : AVal} (h : EntV l v) : v.free = true ∧ v.strip = v := by
  rcases h with rfl | ⟨rfl, _⟩
  · exact ⟨by simp [AVal.free, ents_fr], by simp [AVal.strip, freeL_strip (ents_fr l)]⟩
  · exact ⟨rfl, rfl⟩
theorem EntV.len {l : List (Int × Int)} {v : AVal} (h : EntV l v) : xlen v = some (.int .i64 l.length) ∧ v.down = v := by
  rcases h with rfl | ⟨rfl, rfl⟩ <;> simp [xlen, ents_len]
theorem EntV.ne {l : List (Int × Int)} {v : AVal} (h : EntV l v) (hn : l ≠ []) : v = .list 2 (ents l) none := by
  rcases h with rfl | ⟨_, e⟩
  · rfl
  · exact absurd e hn
/-- Is there another machine in a step, from some machine on? The reference's way: all are looked at. -/
def thr (m s : Int) : List Int → Nat → Bool → Bool
  | [], _, b => b
  | x :: l, i, b => thr m s l (i + 1) (b || (decide (m ≠ (i : Int)) && decide (x = s)))
theorem thr_true (m s : Int) : ∀ (L : List Int) (i : Nat), thr m s L i true = true
  | [], _ => rfl
  | x :: l, i => by unfold thr; simpa using thr_true m s l (i + 1)
theorem thr_oth (m s : Int) : ∀ (L : List Int) (i : Nat), thr m s L i false = oth m s L i
  | [], _ => rfl
  | x :: l, i => by
    unfold thr oth
    by_cases c : (i : Int) ≠ m ∧ x = s
    · have c' : m ≠ (i : Int) := fun e => c.1 e.symm
      have : (decide (m ≠ (i : Int)) && decide (x = s)) = true := by simp [c', c.2]
      rw [if_pos c, this]
      exact thr_true m s l (i + 1)
    · have : (decide (m ≠ (i : Int)) && decide (x = s)) = false := by
        by_cases c1 : m = (i : Int)
        · simp [c1]
        · have : ¬ x = s := fun e => c ⟨fun e' => c1 e'.symm, e⟩
          simp [this]
      rw [if_neg c, this]
      exact thr_oth m s l (i + 1)
/-- What the law asks of a rule and a machine. -/
def bad (L : List Int) (a : Nat) (r : Hr) : Bool := decide (L.getD a 0 = r.s) && ((decide (r.k = 0) && oth a r.o L 0) || (decide (r.k = 1) && !oth a r.o L 0))
theorem fiB_none {p : Hr → Bool} : ∀ {l : List Hr} {i : Nat}, fiB p l i = none → ∀ r, r ∈ l → p r = false
  | [], _, _, r, hr => by simp at hr
  | x :: l, i, h, r, hr => by
    unfold fiB at h
    cases c : p x with
    | true => rw [c] at h; simp at h
    | false =>
      rw [c] at h; simp at h
      rcases List.mem_cons.1 hr with rfl | hr
      · exact c
      · exact fiB_none h r hr
theorem bkn_none {R : List Hr} {L : List Int} : ∀ {k m : Nat}, bkn R L k m = none → ∀ a, m ≤ a → a < m + k → ∀ r, r ∈ R → brk L a r = false
  | 0, m, _, a, h1, h2, r, hr => by omega
  | k + 1, m, h, a, h1, h2, r, hr => by
    unfold bkn at h
    cases c : fiB (brk L m) R 0 with
    | some j => rw [c] at h; simp at h
    | none =>
      rw [c] at h
      by_cases e : a = m
      · subst e; exact fiB_none c r hr
      · exact bkn_none h a (by omega) (by omega) r hr
theorem bad_of {L : List Int} {a : Nat} {r : Hr} (h : brk L a r = false) : bad L a r = false := by
  unfold brk at h
  unfold bad
  cases c1 : decide (L.getD a 0 = r.s) with
  | false => rfl
  | true =>
    rw [c1] at h
    simp only [Bool.true_and] at h ⊢
    cases c2 : oth a r.o L 0 with
    | false =>
      rw [c2] at h
      have : ¬ r.k = 1 := by intro e; simp [e] at h
      simp [this]
    | true =>
      rw [c2] at h
      have : r.k = 1 := by
        by_cases e : r.k = 1
        · exact e
        · simp [e] at h
      simp [this]
theorem fi_all {α : Type} {f : α → Int} : ∀ {l : List α} {i : Nat}, (fiE f l i).2 = 0 → ∀ x, x ∈ l → f x = 0
  | [], _, _, x, hx => by simp at hx
  | y :: l, i, h, x, hx => by
    unfold fiE at h
    by_cases c : f y = 0
    · simp only [c, if_true] at h
      rcases List.mem_cons.1 hx with rfl | hx
      · exact c
      · exact fi_all h x hx
    · simp [c] at h
theorem fi_of {α : Type} {f : α → Int} : ∀ {l : List α} {i : Nat}, (∀ x, x ∈ l → f x = 0) → (fiE f l i).2 = 0
  | [], _, _ => rfl
  | y :: l, i, h => by
    unfold fiE
    rw [if_pos (h y (by simp))]
    exact fi_of fun x hx => h x (by simp [hx])
theorem fi_set {L : List Int} {i : Nat} {t : Int} (h : (fiE chs L 0).2 = 0) (ht : chs t = 0) : (fiE chs (L.set i t) 0).2 = 0 := by
  apply fi_of
  intro x hx
  rcases List.mem_or_eq_of_mem_set hx with hx | rfl
  · exact fi_all h x hx
  · exact ht
theorem stepsE_set {M : Int} {R : List Hr} {L : List Int} {i : Nat} {t : Int} (h : stepsE M R L = 0) (ht : chs t = 0) : stepsE M R (L.set i t) = 0 := by
  unfold stepsE at h ⊢
  by_cases c1 : (hallE M R).2 = 0
  · by_cases c2 : (L.length : Int) = M
    · by_cases c3 : (fiE chs L 0).2 = 0
      · have := fi_set (i := i) c3 ht
        simp [firstNZ, c1, c2, this]
      · simp [firstNZ, c1, c2, c3] at h
    · simp [firstNZ, c1, c2] at h
  · simp [firstNZ, c1] at h
end Go.Proofs.Ytjbegiaceekgcab.Eng

/-
  Values of the rows' types: halls, steps, entries.
-/
namespace Go.Proofs.Ytjbegiaceekgcab
open Go.ChangeShapes Go.WideShapes Go.ChangeAt Go.RowKit Go.Proofs.Ytjbegiaceekgcab.Eng
set_option linter.unusedSimpArgs false
set_option linter.unusedVariables false
theorem cells3 : Try.prog.cellsOf 3 = 1 := by kernel_rfl
theorem cells45 : Try.prog.cellsOf 45 = 3 := by kernel_rfl
theorem ints_list : ∀ {xs : List AVal}, (∀ y ∈ xs, HasV Try.prog 3 y) → ∃ L, xs = ints L
  | [], _ => ⟨[], rfl⟩
  | x :: xs, h => by
    obtain ⟨u, rfl, _⟩ := (h x (by simp)).int_inv Try.underlying3
    obtain ⟨L, rfl⟩ := ints_list (xs := xs) fun y hy => h y (by simp [hy])
    exact ⟨u :: L, rfl⟩
theorem ints_val {v : AVal} (h : HasV Try.prog 25 v) : ∃ L, IntV L v := by
  rcases h.slice_inv Try.underlying25 with rfl | ⟨xs, rfl, _, hx⟩
  · exact ⟨[], .inr ⟨rfl, rfl⟩⟩
  · obtain ⟨L, rfl⟩ := ints_list hx
    exact ⟨L, .inl (by rw [cells3])⟩
theorem rule_has {x : AVal} (h : HasV Try.prog 45 x) : ∃ r : Hr, x = r.enc := by
  obtain ⟨vs, rfl, hl, hv⟩ := h.struct_inv Try.underlying45
  match vs, hl with
  | [a, b, c], _ =>
    obtain ⟨x, rfl, _⟩ := (hv 0 _ _ rfl rfl).int_inv Try.underlying3
    obtain ⟨y, rfl, _⟩ := (hv 1 _ _ rfl rfl).int_inv Try.underlying3
    obtain ⟨z, rfl, _⟩ := (hv 2 _ _ rfl rfl).int_inv Try.underlying3
    exact ⟨⟨x, y, z⟩, rfl⟩
theorem rule_list : ∀ {xs : List AVal}, (∀ y ∈ xs, HasV Try.prog 45 y) → ∃ R : List Hr, xs = hrs R
  | [], _ => ⟨[], rfl⟩
  | x :: xs, h => by
    obtain ⟨s, rfl⟩ := rule_has (h x (by simp))
    obtain ⟨l, rfl⟩ := rule_list (xs := xs) fun y hy => h y (by simp [hy])
    exact ⟨s :: l, rfl⟩
theorem hall_val {v : AVal} (h : HasV Try.prog 24 v) : ∃ M R w, v = .agg [.int .i64 M, w] ∧ HrsV R w := by
  obtain ⟨vs, rfl, hl, hv⟩ := h.struct_inv Try.underlying24
  match vs, hl with
  | [a, b], _ =>
    obtain ⟨x, rfl, _⟩ := (hv 0 _ _ rfl rfl).int_inv Try.underlying3
    rcases (hv 1 _ _ rfl rfl).slice_inv Try.underlying22 with rfl | ⟨xs, rfl, _, hx⟩
    · exact ⟨x, [], .nils, rfl, .inr ⟨rfl, rfl⟩⟩
    · obtain ⟨R, rfl⟩ := rule_list hx
      exact ⟨x, R, _, rfl, .inl (by rw [cells45])⟩
theorem cells41 : Try.prog.cellsOf 41 = 2 := by kernel_rfl
theorem entry_has {x : AVal} (h : HasV Try.prog 41 x) : ∃ r : Int × Int, x = ent r := by
  obtain ⟨vs, rfl, hl, hv⟩ := h.struct_inv Try.underlying41
  match vs, hl with
  | [a, b], _ =>
    obtain ⟨x, rfl, _⟩ := (hv 0 _ _ rfl rfl).int_inv Try.underlying3
    obtain ⟨y, rfl, _⟩ := (hv 1 _ _ rfl rfl).int_inv Try.underlying3
    exact ⟨(x, y), rfl⟩
theorem entry_list : ∀ {xs : List AVal}, (∀ y ∈ xs, HasV Try.prog 41 y) → ∃ l : List (Int × Int), xs = ents l
  | [], _ => ⟨[], rfl⟩
  | x :: xs, h => by
    obtain ⟨s, rfl⟩ := entry_has (h x (by simp))
    obtain ⟨l, rfl⟩ := entry_list (xs := xs) fun y hy => h y (by simp [hy])
    exact ⟨s :: l, rfl⟩
theorem entries_val {v : AVal} (h : HasV Try.prog 26 v) : ∃ l, EntV l v := by
  rcases h.slice_inv Try.underlying26 with rfl | ⟨xs, rfl, _, hx⟩
  · exact ⟨[], .inr ⟨rfl, rfl⟩⟩
  · obtain ⟨l, rfl⟩ := entry_list hx
    exact ⟨l, .inl (by rw [cells41])⟩
end Go.Proofs.Ytjbegiaceekgcab

/-
  SEQUENCE: halls: checks.
-/
namespace Go.Proofs.Ytjbegiaceekgcab.Eng
set_option linter.unusedSimpArgs false
set_option linter.unusedVariables false
section
variable {X : FuncId → Option XFunc} (hX : SrLCode X)
include hX
theorem w13 (a b c : Int) (σ : Store) : Run X (.call 13) [.int .i64 a, .int .i64 b, .int .i64 c] σ = some (.ret, [.bool (win a b c)], σ) := by
  refine call3 (X := X) (a := .int .i64 a) (b := .int .i64 b) (c := .int .i64 c) (v := .bool (win a b c)) hX.h13 rfl rfl rfl (by decide) (fun tm hl h0 h1 h2 => ?_) rfl σ
  simp only [AVal.strip, stripL] at h0 h1 h2
  replace hl : tm.length = 15 := hl
  unfold Gives
  by_cases e1 : b ≤ a <;> simp [xf13, hl, h0, h1, h2, e1, win]
theorem w60 (a b c : Int) (σ : Store) : Run X (.call 60) [.int .i64 a, .int .i64 b, .int .i64 c] σ = some (.ret, [.bool (win a b c)], σ) := by
  refine call3 (X := X) (a := .int .i64 a) (b := .int .i64 b) (c := .int .i64 c) (v := .bool (win a b c)) hX.h60 rfl rfl rfl (by decide) (fun tm hl h0 h1 h2 => ?_) rfl σ
  simp only [AVal.strip, stripL] at h0 h1 h2
  replace hl : tm.length = 15 := hl
  unfold Gives
  by_cases e1 : b ≤ a <;> simp [xf60, hl, h0, h1, h2, e1, win]
theorem w34 (c : Bool) (e : Int) (σ : Store) : Run X (.call 34) [.bool c, .int .i64 e] σ = some (.ret, [.int .i64 (if c then 0 else e)], σ) := by
  refine call2 (X := X) (a := .bool c) (b := .int .i64 e) (v := .int .i64 (if c then 0 else e)) hX.h34 rfl rfl (by decide) (fun tm hl h0 h1 => ?_) rfl σ
  simp only [AVal.strip, stripL] at h0 h1
  replace hl : tm.length = 7 := hl
  unfold Gives
  cases c <;> simp [xf34, hl, h0, h1]
theorem w80 (a b c : Int) (σ : Store) : Run X (.call 80) [.int .i64 a, .int .i64 b, .int .i64 c] σ = some (.ret, [.int .i64 (if win a b c then 0 else 2)], σ) := by
  refine call3 (X := X) (a := .int .i64 a) (b := .int .i64 b) (c := .int .i64 c) (v := .int .i64 (if win a b c then 0 else 2)) hX.h80 rfl rfl rfl (by decide) (fun tm hl h0 h1 h2 => ?_) rfl σ
  simp only [AVal.strip, stripL] at h0 h1 h2
  replace hl : tm.length = 12 := hl
  unfold Gives
  simp [xf80, hl, h0, h1, h2, w60 hX, w34 hX]
theorem w36 {a n : Int} (hn : IntKind.i64.wrap (n - 1) = n - 1) (σ : Store) : Run X (.call 36) [.int .i64 a, .int .i64 n] σ = some (.ret, [.int .i64 (if win a 0 (n - 1) then 0 else 6)], σ) := by
  refine call2 (X := X) (a := .int .i64 a) (b := .int .i64 n) (v := .int .i64 (if win a 0 (n - 1) then 0 else 6)) hX.h36 rfl rfl (by decide) (fun tm hl h0 h1 => ?_) rfl σ
  simp only [AVal.strip, stripL] at h0 h1
  replace hl : tm.length = 10 := hl
  unfold Gives
  simp [xf36, hl, h0, h1, hn, w60 hX, w34 hX]
theorem w37 (a : Int) (σ : Store) : Run X (.call 37) [.int .i64 a] σ = some (.ret, [.int .i64 (chs a)], σ) := by
  refine call1 (X := X) (a := .int .i64 a) (v := .int .i64 (chs a)) hX.h37 rfl (by decide) (fun tm hl h0 => ?_) rfl σ
  simp only [AVal.strip, stripL] at h0
  replace hl : tm.length = 5 := hl
  unfold Gives
  have u := fun σ => w36 hX (a := a) (n := 10) (by decide) σ
  simp only [show (10 : Int) - 1 = 9 from rfl] at u
  simp [xf37, hl, h0, u, chs]
theorem w31 (a : Int) (σ : Store) : Run X (.call 31) [.int .i64 a] σ = some (.ret, [.bool (win a 0 9)], σ) := by
  refine call1 (X := X) (a := .int .i64 a) (v := .bool (win a 0 9)) hX.h31 rfl (by decide) (fun tm hl h0 => ?_) rfl σ
  simp only [AVal.strip, stripL] at h0
  replace hl : tm.length = 5 := hl
  unfold Gives
  simp [xf31, hl, h0, w13 hX]
theorem w81 {R : List Hr} {v : AVal} (h : HrsV R v) (σ : Store) : Run X (.call 81) [v, .int .i64 12] σ = some (.ret, [.int .i64 (if R.length ≤ 12 then 0 else 8)], σ) := by
  refine call2 (a := v) (b := .int .i64 12) (v := .int .i64 (if R.length ≤ 12 then 0 else 8)) hX.h81 (by rw [h.free.2]; exact h.free.1) rfl (by decide) (fun tm hl h0 h1 => ?_) rfl σ
  rw [h.free.2] at h0
  simp only [AVal.strip, stripL] at h1
  replace hl : tm.length = 10 := hl
  obtain ⟨hln, hdn⟩ := h.len
  unfold Gives
  by_cases c : R.length ≤ 12
  · have c' : (R.length : Int) ≤ 12 := by omega
    simp [xf81, hl, h0, h1, hln, hdn, w34 hX, c, c']
  · have c' : ¬ (R.length : Int) ≤ 12 := by omega
    simp [xf81, hl, h0, h1, hln, hdn, w34 hX, c, c']
omit hX in
theorem loop35 (es : List Int) (hn : es.length ≤ 1000000000) : ∀ (k i : Nat), i + k = es.length → ∀ (tm : List AVal) (σ : Store), tm.length = 15 → XOpd.eval tm (.t 5) = .list 1 (es.map (.int .i64)) none → XOpd.eval tm (.t 6) = .int .i64 es.length → XOpd.eval tm (.t 7) = .int .i64 i →
    Ends (Run X (.code (.loop xf35l0)) tm σ) (if firstNZ (es.drop i) = 0 then .exit 0 else .ret) fun tm' _ => tm'.length = 15 ∧ (firstNZ (es.drop i) ≠ 0 → XOpd.eval tm' (.t 2) = .int .i64 (firstNZ (es.drop i)))
  | 0, i, hk, tm, σ, hl, h5, h6, h7 => by
    have hi : i = es.length := by omega
    subst hi
    rw [Run_loop]
    simp [xf35l0, hl, h5, h6, h7, firstNZ]
  | k + 1, i, hk, tm, σ, hl, h5, h6, h7 => by
    have hi : i < es.length := by omega
    have hd : es.drop i = es[i] :: es.drop (i + 1) := List.drop_eq_getElem_cons hi
    have hw : IntKind.i64.wrap ((i : Int) + 1) = ((i + 1 : Nat) : Int) := by rw [wrap_i64] <;> omega
    rw [Run_loop, hd]
    by_cases he : es[i] = 0
    · have ih := loop35 es hn k (i + 1) (by omega)
      simp only [firstNZ, he, if_true]
      simp [xf35l0, hl, h5, h6, h7, hi, he, hw, xload, AVal.cells]
      exact ih _ _ (by simp [hl]) (by simp [hl, h5]) (by simp [hl, h6]) (by simp [hl])
    · simp only [firstNZ, he, if_false]
      simp [xf35l0, hl, h5, h6, h7, hi, he, xload, AVal.cells]
omit hX in
theorem eints_free (es : List Int) : freeL (es.map (AVal.int .i64)) = true := by
  induction es with
  | nil => rfl
  | cons e l ih => simp [freeL, AVal.free, ih]
theorem w35 (es : List Int) (hn : es.length ≤ 1000000000) (tok : Option Nat) (σ : Store) : Run X (.call 35) [.list 1 (es.map (.int .i64)) tok] σ = some (.ret, [.int .i64 (firstNZ es)], σ) := by
  refine call1 (v := .int .i64 (firstNZ es)) hX.h35 (by simp [AVal.strip, AVal.free, freeL_strip (eints_free es), eints_free]) (by decide) (fun tm hl h0 => ?_) rfl σ
  simp only [AVal.strip, freeL_strip (eints_free es)] at h0
  replace hl : tm.length = 15 := hl
  have hL := fun tm σ h1 h2 h3 h4 => out_of (loop35 (X := X) es hn es.length 0 (by omega) tm σ h1 h2 h3 h4)
  simp only [List.drop_zero] at hL
  unfold Gives
  by_cases he : firstNZ es = 0
  · simp only [he, if_true] at hL
    simp (maxDischargeDepth := 9) [xf35, hl, h0, hL, he, xlen]
  · simp only [he, if_false] at hL
    simp (maxDischargeDepth := 9) [xf35, hl, h0, hL, he, xlen]
theorem first2 (a b : Int) (tok : Option Nat) (σ : Store) : Run X (.call 35) [.list 1 [.int .i64 a, .int .i64 b] tok] σ = some (.ret, [.int .i64 (firstNZ [a, b])], σ) := w35 hX [a, b] (by simp) tok σ
theorem first3 (a b c : Int) (tok : Option Nat) (σ : Store) : Run X (.call 35) [.list 1 [.int .i64 a, .int .i64 b, .int .i64 c] tok] σ = some (.ret, [.int .i64 (firstNZ [a, b, c])], σ) := w35 hX [a, b, c] (by simp) tok σ
set_option maxHeartbeats 4000000 in
theorem w83 (r : Hr) (σ : Store) : Run X (.call 83) [.agg [.int .i64 r.s, .int .i64 r.o, .int .i64 r.k]] σ = some (.ret, [.int .i64 r.e], σ) := by
  refine call1 (X := X) (a := .agg [.int .i64 r.s, .int .i64 r.o, .int .i64 r.k]) (v := .int .i64 r.e) hX.h83 (by simp [AVal.strip, stripL, AVal.free, freeL]) (by decide) (fun tm hl h0 => ?_) rfl σ
  simp only [AVal.strip, stripL] at h0
  replace hl : tm.length = 15 := hl
  unfold Gives
  unfold Hr.e
  simp [xf83, hl, h0, w37 hX, w60 hX, w34 hX, first3 hX, Store.empty, Store.new, Store.put, Store.get, look, putL, setR, Store.only, Store.merge, touch, wrote, upTo, isIn, okRec, hits, capsOf, xcaps, stripL, AVal.strip, freeL, AVal.free, fillR, chunks, mkV, List.filter]
theorem loop84 (L : List Int) {v : AVal} (hv : IntV L v) (hn : L.length ≤ 1000000000) : ∀ (k i : Nat), i + k = L.length → ∀ (tm : List AVal) (σ : Store), tm.length = 24 → XOpd.eval tm (.t 1) = .fn 37 [] [] → XOpd.eval tm (.t 9) = v → XOpd.eval tm (.t 10) = .int .i64 L.length → XOpd.eval tm (.t 11) = .int .i64 i →
    Ends (Run X (.code (.loop xf84l0)) tm σ) (if (fiE chs (L.drop i) i).2 = 0 then .exit 0 else .ret) fun tm' _ => tm'.length = 24 ∧ ((fiE chs (L.drop i) i).2 ≠ 0 → XOpd.eval tm' (.t 4) = .int .i64 (fiE chs (L.drop i) i).1 ∧ XOpd.eval tm' (.t 5) = .int .i64 (fiE chs (L.drop i) i).2)
  | 0, i, hk, tm, σ, hl, h1, h9, h10, h11 => by
    have hi : i = L.length := by omega
    subst hi
    rw [Run_loop]
    simp [xf84l0, hl, h1, h10, h11, fiE]
  | k + 1, i, hk, tm, σ, hl, h1, h9, h10, h11 => by
    have hi : i < L.length := by omega
    have hd : L.drop i = L[i] :: L.drop (i + 1) := List.drop_eq_getElem_cons hi
    have hw : IntKind.i64.wrap ((i : Int) + 1) = ((i + 1 : Nat) : Int) := by rw [wrap_i64] <;> omega
    have h9' : XOpd.eval tm (.t 9) = .list 1 (ints L) none := by rw [h9]; exact hv.ne (by intro e; simp [e] at hi)
    have u := w37 hX
    rw [Run_loop, hd]
    by_cases he : chs L[i] = 0
    · have ih := loop84 L hv hn k (i + 1) (by omega)
      simp only [fiE, he, if_true]
      simp [xf84l0, hl, h1, h9', h10, h11, hi, he, hw, u, ints, xload, AVal.cells]
      exact ih _ _ (by simp [hl]) (by simp [hl, h1]) (by simp [hl, h9]) (by simp [hl, h10]) (by simp [hl])
    · simp only [fiE, he, if_false]
      simp [xf84l0, hl, h1, h9', h10, h11, hi, he, u, ints, xload, AVal.cells]
theorem w84 {L : List Int} {v : AVal} (h : IntV L v) (hn : L.length ≤ 1000000000) (σ : Store) : Run X (.call 84) [v, .fn 37 [] []] σ = some (.ret, [.tup [.int .i64 (fiE chs L 0).1, .int .i64 (fiE chs L 0).2]], σ) := by
  refine call2 (a := v) (b := .fn 37 [] []) (v := .tup [.int .i64 (fiE chs L 0).1, .int .i64 (fiE chs L 0).2]) hX.h84 (by rw [h.free.2]; exact h.free.1) rfl (by decide) (fun tm hl h0 h1 => ?_) rfl σ
  rw [h.free.2] at h0
  simp only [AVal.strip, stripL] at h1
  replace hl : tm.length = 24 := hl
  obtain ⟨hln, hdn⟩ := h.len
  have hL := fun tm σ h1 h2 h3 h4 h5 => out_of (loop84 hX L h hn L.length 0 (by omega) tm σ h1 h2 h3 h4 h5)
  simp only [List.drop_zero] at hL
  unfold Gives
  by_cases he : (fiE chs L 0).2 = 0
  · have e1 : (fiE chs L 0).1 = 0 := fiE_zero he
    simp only [he, if_true] at hL
    simp (maxDischargeDepth := 9) [xf84, hl, h0, h1, hL, he, e1, hln, hdn, xresult, xrets, xret_t]
  · simp only [he, if_false] at hL
    simp (maxDischargeDepth := 9) [xf84, hl, h0, h1, hL, he, hln, hdn, xresult, xrets, xret_t]
theorem w56 {L : List Int} {v : AVal} (h : IntV L v) (hn : L.length ≤ 1000000000) (σ : Store) : Run X (.call 56) [v, .fn 37 [] []] σ = some (.ret, [.int .i64 (fiE chs L 0).2], σ) := by
  refine call2 (a := v) (b := .fn 37 [] []) (v := .int .i64 (fiE chs L 0).2) hX.h56 (by rw [h.free.2]; exact h.free.1) rfl (by decide) (fun tm hl h0 h1 => ?_) rfl σ
  rw [h.free.2] at h0
  simp only [AVal.strip, stripL] at h1
  replace hl : tm.length = 14 := hl
  unfold Gives
  simp [xf56, hl, h0, h1, w84 hX h hn]
end
end Go.Proofs.Ytjbegiaceekgcab.Eng

/-
  SEQUENCE: halls: rules.
-/
namespace Go.Proofs.Ytjbegiaceekgcab.Eng
set_option linter.unusedSimpArgs false
set_option linter.unusedVariables false
section
variable {X : FuncId → Option XFunc} (hX : SrLCode X)
include hX
theorem loop82 (R : List Hr) {v : AVal} (hv : HrsV R v) (hn : R.length ≤ 1000000000) : ∀ (k i : Nat), i + k = R.length → ∀ (tm : List AVal) (σ : Store), tm.length = 24 → XOpd.eval tm (.t 1) = .fn 83 [] [] → XOpd.eval tm (.t 9) = v → XOpd.eval tm (.t 10) = .int .i64 R.length → XOpd.eval tm (.t 11) = .int .i64 i →
    Ends (Run X (.code (.loop xf82l0)) tm σ) (if (fiE Hr.e (R.drop i) i).2 = 0 then .exit 0 else .ret) fun tm' _ => tm'.length = 24 ∧ ((fiE Hr.e (R.drop i) i).2 ≠ 0 → XOpd.eval tm' (.t 4) = .int .i64 (fiE Hr.e (R.drop i) i).1 ∧ XOpd.eval tm' (.t 5) = .int .i64 (fiE Hr.e (R.drop i) i).2)
  | 0, i, hk, tm, σ, hl, h1, h9, h10, h11 => by
    have hi : i = R.length := by omega
    subst hi
    rw [Run_loop]
    simp [xf82l0, hl, h1, h10, h11, fiE]
  | k + 1, i, hk, tm, σ, hl, h1, h9, h10, h11 => by
    have hi : i < R.length := by omega
    have hd : R.drop i = R[i] :: R.drop (i + 1) := List.drop_eq_getElem_cons hi
    have hw : IntKind.i64.wrap ((i : Int) + 1) = ((i + 1 : Nat) : Int) := by rw [wrap_i64] <;> omega
    have h9' : XOpd.eval tm (.t 9) = .list 3 (hrs R) none := by rw [h9]; exact hv.ne (by intro e; simp [e] at hi)
    have u := w83 hX
    rw [Run_loop, hd]
    by_cases he : R[i].e = 0
    · have ih := loop82 R hv hn k (i + 1) (by omega)
      simp only [fiE, he, if_true]
      simp [xf82l0, hl, h1, h9', h10, h11, hi, he, hw, u, hrs, Hr.enc, xload, AVal.cells, put_next, new_next, Store.get_new, Store.get_put, put_get, setR, only_get, merge_get', only_next, merge_next, upTo_self, upTo_one, merge_only, touch, wrote, isIn, okRec, hits, capsOf, xcaps, stripL, AVal.strip, freeL, AVal.free, fillR, chunks, mkV]
      exact ih _ _ (by simp [hl]) (by simp [hl, h1]) (by simp [hl, h9]) (by simp [hl, h10]) (by simp [hl])
    · simp only [fiE, he, if_false]
      simp [xf82l0, hl, h1, h9', h10, h11, hi, he, u, hrs, Hr.enc, xload, AVal.cells, put_next, new_next, Store.get_new, Store.get_put, put_get, setR, only_get, merge_get', only_next, merge_next, upTo_self, upTo_one, merge_only, touch, wrote, isIn, okRec, hits, capsOf, xcaps, stripL, AVal.strip, freeL, AVal.free, fillR, chunks, mkV]
theorem w82 {R : List Hr} {v : AVal} (h : HrsV R v) (hn : R.length ≤ 1000000000) (σ : Store) : Run X (.call 82) [v, .fn 83 [] []] σ = some (.ret, [.tup [.int .i64 (fiE Hr.e R 0).1, .int .i64 (fiE Hr.e R 0).2]], σ) := by
  refine call2 (a := v) (b := .fn 83 [] []) (v := .tup [.int .i64 (fiE Hr.e R 0).1, .int .i64 (fiE Hr.e R 0).2]) hX.h82 (by rw [h.free.2]; exact h.free.1) rfl (by decide) (fun tm hl h0 h1 => ?_) rfl σ
  rw [h.free.2] at h0
  simp only [AVal.strip, stripL] at h1
  replace hl : tm.length = 24 := hl
  obtain ⟨hln, hdn⟩ := h.len
  have hL := fun tm σ h1 h2 h3 h4 h5 => out_of (loop82 hX R h hn R.length 0 (by omega) tm σ h1 h2 h3 h4 h5)
  simp only [List.drop_zero] at hL
  unfold Gives
  by_cases he : (fiE Hr.e R 0).2 = 0
  · have e1 : (fiE Hr.e R 0).1 = 0 := fiE_zero he
    simp only [he, if_true] at hL
    simp (maxDischargeDepth := 9) [xf82, hl, h0, h1, hL, he, e1, hln, hdn, xresult, xrets, xret_t]
  · simp only [he, if_false] at hL
    simp (maxDischargeDepth := 9) [xf82, hl, h0, h1, hL, he, hln, hdn, xresult, xrets, xret_t]
set_option maxHeartbeats 4000000 in
theorem w55 {M : Int} {R : List Hr} {v : AVal} (h : HrsV R v) (hn : R.length ≤ 1000000000) (σ : Store) : Run X (.call 55) [.agg [.int .i64 M, v]] σ = some (.ret, [.tup [.int .i64 (hallE M R).1, .int .i64 (hallE M R).2]], σ) := by
  refine call1 (a := .agg [.int .i64 M, v]) (v := .tup [.int .i64 (hallE M R).1, .int .i64 (hallE M R).2]) hX.h55 (by simp [AVal.strip, stripL, AVal.free, freeL, h.free.1, h.free.2]) (by decide) (fun tm hl h0 => ?_) rfl σ
  simp only [AVal.strip, stripL, h.free.2] at h0
  replace hl : tm.length = 21 := hl
  have f1 := h.free.1
  have f2 := h.free.2
  have u1 := w81 hX h
  have u2 := w82 hX h hn
  have u3 := w80 hX
  have u4 := first2 hX
  unfold hallE
  unfold Gives
  generalize hE : firstNZ [if win M 1 6 then 0 else 2, if R.length ≤ 12 then 0 else 8] = E at *
  by_cases he : E = 0
  · simp [xf55, hl, h0, f1, f2, u1, u2, u3, u4, hE, he, xload, AVal.cells, xresult, xrets, xret_t, Store.empty, Store.new, Store.put, Store.get, look, putL, setR, Store.only, Store.merge, touch, wrote, upTo, isIn, okRec, hits, capsOf, xcaps, stripL, AVal.strip, freeL, AVal.free, fillR, chunks, mkV, List.filter]
  · simp [xf55, hl, h0, f1, f2, u1, u2, u3, u4, hE, he, xload, AVal.cells, xresult, xrets, xret_t, Store.empty, Store.new, Store.put, Store.get, look, putL, setR, Store.only, Store.merge, touch, wrote, upTo, isIn, okRec, hits, capsOf, xcaps, stripL, AVal.strip, freeL, AVal.free, fillR, chunks, mkV, List.filter]
theorem w32 {M : Int} {R : List Hr} {L : List Int} {v s : AVal} (h : HrsV R v) (hs : IntV L s) (hn : R.length ≤ 1000000000) (hm : L.length ≤ 1000000000) (σ : Store) : Run X (.call 32) [.agg [.int .i64 M, v], s] σ = some (.ret, [.int .i64 (stepsE M R L)], σ) := by
  refine call2 (a := .agg [.int .i64 M, v]) (b := s) (v := .int .i64 (stepsE M R L)) hX.h32 (by simp [AVal.strip, stripL, AVal.free, freeL, h.free.1, h.free.2]) (by rw [hs.free.2]; exact hs.free.1) (by decide) (fun tm hl h0 h1 => ?_) rfl σ
  simp only [AVal.strip, stripL, h.free.2] at h0
  rw [hs.free.2] at h1
  replace hl : tm.length = 23 := hl
  have f1 := h.free.1
  have f2 := h.free.2
  have g1 := hs.free.1
  have g2 := hs.free.2
  have u1 := w55 hX (M := M) h hn
  have u2 := w56 hX hs hm
  have u3 := w34 hX
  have u4 := first3 hX
  obtain ⟨hln, hdn⟩ := hs.len
  unfold stepsE
  unfold Gives
  by_cases c : (L.length : Int) = M
  · simp [xf32, hl, h0, h1, f1, f2, g1, g2, u1, u2, u3, u4, hln, hdn, c, xload, AVal.cells, Store.empty, Store.new, Store.put, Store.get, look, putL, setR, Store.only, Store.merge, touch, wrote, upTo, isIn, okRec, hits, capsOf, xcaps, stripL, AVal.strip, freeL, AVal.free, fillR, chunks, mkV, List.filter]
  · simp [xf32, hl, h0, h1, f1, f2, g1, g2, u1, u2, u3, u4, hln, hdn, c, xload, AVal.cells, Store.empty, Store.new, Store.put, Store.get, look, putL, setR, Store.only, Store.merge, touch, wrote, upTo, isIn, okRec, hits, capsOf, xcaps, stripL, AVal.strip, freeL, AVal.free, fillR, chunks, mkV, List.filter]
omit hX in
theorem loop85 (L : List Int) {v : AVal} (hv : IntV L v) (hn : L.length ≤ 1000000000) (m s : Int) : ∀ (k i : Nat), i + k = L.length → ∀ (tm : List AVal) (σ : Store), tm.length = 25 → XOpd.eval tm (.t 0) = .int .i64 m → XOpd.eval tm (.t 1) = .int .i64 s → XOpd.eval tm (.t 9) = v → XOpd.eval tm (.t 10) = .int .i64 L.length → XOpd.eval tm (.t 11) = .int .i64 i →
    Ends (Run X (.code (.loop xf85l0)) tm σ) (if oth m s (L.drop i) i then .ret else .exit 0) fun tm' _ => tm'.length = 25 ∧ (oth m s (L.drop i) i = true → XOpd.eval tm' (.t 6) = .bool true)
  | 0, i, hk, tm, σ, hl, h0, h1, h9, h10, h11 => by
    have hi : i = L.length := by omega
    subst hi
    rw [Run_loop]
    simp [xf85l0, hl, h0, h1, h10, h11, oth]
  | k + 1, i, hk, tm, σ, hl, h0, h1, h9, h10, h11 => by
    have hi : i < L.length := by omega
    have hd : L.drop i = L[i] :: L.drop (i + 1) := List.drop_eq_getElem_cons hi
    have hw : IntKind.i64.wrap ((i : Int) + 1) = ((i + 1 : Nat) : Int) := by rw [wrap_i64] <;> omega
    have h9' : XOpd.eval tm (.t 9) = .list 1 (ints L) none := by rw [h9]; exact hv.ne (by intro e; simp [e] at hi)
    have ih := loop85 L hv hn m s k (i + 1) (by omega)
    rw [Run_loop, hd]
    by_cases e1 : (i : Int) = m
    · have hc : ¬ ((i : Int) ≠ m ∧ L[i] = s) := fun h => h.1 e1
      simp only [oth, hc, if_false]
      subst e1
      simp [xf85l0, hl, h0, h1, h9', h10, h11, hi, hw, ints, xload, AVal.cells]
      exact ih _ _ (by simp [hl]) (by simp [hl, h0]) (by simp [hl, h1]) (by simp [hl, h9]) (by simp [hl, h10]) (by simp [hl])
    · by_cases e2 : L[i] = s
      · have hc : ((i : Int) ≠ m ∧ L[i] = s) := ⟨e1, e2⟩
        simp only [oth, hc, if_true]
        simp [xf85l0, hl, h0, h1, h9', h10, h11, hi, hw, e1, e2, ints, xload, AVal.cells]
      · have hc : ¬ ((i : Int) ≠ m ∧ L[i] = s) := fun h => e2 h.2
        simp only [oth, hc, if_false]
        simp [xf85l0, hl, h0, h1, h9', h10, h11, hi, hw, e1, e2, ints, xload, AVal.cells]
        exact ih _ _ (by simp [hl]) (by simp [hl, h0]) (by simp [hl, h1]) (by simp [hl, h9]) (by simp [hl, h10]) (by simp [hl])
theorem w85 {L : List Int} {v : AVal} (h : IntV L v) (hn : L.length ≤ 1000000000) (m s : Int) (σ : Store) : Run X (.call 85) [.int .i64 m, .int .i64 s, v] σ = some (.ret, [.bool (oth m s L 0)], σ) := by
  refine call3 (a := .int .i64 m) (b := .int .i64 s) (c := v) (v := .bool (oth m s L 0)) hX.h85 rfl rfl (by rw [h.free.2]; exact h.free.1) (by decide) (fun tm hl h0 h1 h2 => ?_) rfl σ
  rw [h.free.2] at h2
  simp only [AVal.strip, stripL] at h0 h1
  replace hl : tm.length = 25 := hl
  obtain ⟨hln, hdn⟩ := h.len
  have hL := fun tm σ h1 h2 h3 h4 h5 h6 => out_of (loop85 (X := X) L h hn m s L.length 0 (by omega) tm σ h1 h2 h3 h4 h5 h6)
  simp only [List.drop_zero] at hL
  unfold Gives
  cases he : oth m s L 0
  · simp only [he, Bool.false_eq_true, if_false] at hL
    simp (maxDischargeDepth := 9) [xf85, hl, h0, h1, h2, hL, he, hln, hdn]
  · simp only [he, if_true] at hL
    simp (maxDischargeDepth := 9) [xf85, hl, h0, h1, h2, hL, he, hln, hdn]
set_option maxHeartbeats 4000000 in
theorem w58 {L : List Int} {v : AVal} (h : IntV L v) (hn : L.length ≤ 1000000000) {m : Nat} (hm : m < L.length) (r : Hr) (σ : Store) : Run X (.call 58) [.int .i64 m, .agg [.int .i64 r.s, .int .i64 r.o, .int .i64 r.k], v] σ = some (.ret, [.bool (!brk L m r)], σ) := by
  refine call3 (a := .int .i64 m) (b := .agg [.int .i64 r.s, .int .i64 r.o, .int .i64 r.k]) (c := v) (v := .bool (!brk L m r)) hX.h58 rfl rfl (by rw [h.free.2]; exact h.free.1) (by decide) (fun tm hl h0 h1 h2 => ?_) rfl σ
  have hv : v = .list 1 (ints L) none := h.ne (by intro e; simp [e] at hm)
  have u := w85 hX h hn
  rw [hv] at u h2
  simp only [AVal.strip, stripL, freeL_strip (ints_fr L)] at h0 h1 h2
  replace hl : tm.length = 23 := hl
  have hd : L.getD m 0 = L[m] := by simp [hm]
  have fr := ints_fr L
  have fs := freeL_strip (ints_fr L)
  have gi : ∀ (hq : m < (ints L).length), (ints L)[m] = .int .i64 L[m] := fun hq => by simp [ints]
  have hm' : m < (ints L).length := by rw [ints_len]; exact hm
  unfold brk
  rw [hd]
  unfold Gives
  by_cases c1 : L[m] = r.s
  · by_cases c2 : r.k = 1
    · simp [xf58, hl, h0, h1, h2, u, hm, hm', gi, c1, c2, fr, fs, xload, AVal.cells, Store.empty, Store.new, Store.put, Store.get, look, putL, setR, Store.only, Store.merge, touch, wrote, upTo, isIn, okRec, hits, capsOf, xcaps, stripL, AVal.strip, freeL, AVal.free, fillR, chunks, mkV, List.filter]
    · simp [xf58, hl, h0, h1, h2, u, hm, hm', gi, c1, c2, fr, fs, xload, AVal.cells, Store.empty, Store.new, Store.put, Store.get, look, putL, setR, Store.only, Store.merge, touch, wrote, upTo, isIn, okRec, hits, capsOf, xcaps, stripL, AVal.strip, freeL, AVal.free, fillR, chunks, mkV, List.filter]
  · simp [xf58, hl, h0, h1, h2, u, hm, hm', gi, c1, fr, fs, xload, AVal.cells, Store.empty, Store.new, Store.put, Store.get, look, putL, setR, Store.only, Store.merge, touch, wrote, upTo, isIn, okRec, hits, capsOf, xcaps, stripL, AVal.strip, freeL, AVal.free, fillR, chunks, mkV, List.filter]
end
end Go.Proofs.Ytjbegiaceekgcab.Eng

/-
  SEQUENCE: halls: the reference.
-/
namespace Go.Proofs.Ytjbegiaceekgcab.Eng
set_option linter.unusedSimpArgs false
set_option linter.unusedVariables false
section
variable {X : FuncId → Option XFunc} (hX : SrLCode X)
include hX
theorem w6 {M : Int} {R : List Hr} {v s : AVal} (hv : HrsV R v) {L : List Int} (h : IntV L s) (σ : Store) : Run X (.call 6) [.agg [.int .i64 M, v], s] σ = some (.ret, [.bool (decide (R.length ≤ 14) && decide (L.length ≤ 8))], σ) := by
  refine call2 (a := .agg [.int .i64 M, v]) (b := s) (v := .bool (decide (R.length ≤ 14) && decide (L.length ≤ 8))) hX.h6 (by simp [AVal.strip, stripL, AVal.free, freeL, hv.free.1, hv.free.2]) (by rw [h.free.2]; exact h.free.1) (by decide) (fun tm hl h0 h1 => ?_) rfl σ
  simp only [AVal.strip, stripL, hv.free.2] at h0
  rw [h.free.2] at h1
  replace hl : tm.length = 14 := hl
  obtain ⟨hln, hdn⟩ := h.len
  obtain ⟨kln, kdn⟩ := hv.len
  unfold Gives
  by_cases c : R.length ≤ 14
  · have c' : (R.length : Int) ≤ 14 := by omega
    by_cases d : L.length ≤ 8
    · have d' : (L.length : Int) ≤ 8 := by omega
      simp [xf6, hl, h0, h1, hln, hdn, kln, kdn, c, c', d, d', xload, AVal.cells, Store.empty, Store.new, Store.put, Store.get, look, putL, setR, Store.only, Store.merge, touch, wrote, upTo, isIn, okRec, hits, capsOf, xcaps, stripL, AVal.strip, freeL, AVal.free, fillR, chunks, mkV, List.filter]
    · have d' : ¬ (L.length : Int) ≤ 8 := by omega
      simp [xf6, hl, h0, h1, hln, hdn, kln, kdn, c, c', d, d', xload, AVal.cells, Store.empty, Store.new, Store.put, Store.get, look, putL, setR, Store.only, Store.merge, touch, wrote, upTo, isIn, okRec, hits, capsOf, xcaps, stripL, AVal.strip, freeL, AVal.free, fillR, chunks, mkV, List.filter]
  · have c' : ¬ (R.length : Int) ≤ 14 := by omega
    simp [xf6, hl, h0, h1, hln, hdn, kln, kdn, c, c', xload, AVal.cells, Store.empty, Store.new, Store.put, Store.get, look, putL, setR, Store.only, Store.merge, touch, wrote, upTo, isIn, okRec, hits, capsOf, xcaps, stripL, AVal.strip, freeL, AVal.free, fillR, chunks, mkV, List.filter]
omit hX in
theorem hrs_ones (R : List Hr) : ones (hrs R) = true := by
  induction R with
  | nil => rfl
  | cons a l ih =>
    show ((a.enc.cells.all AVal.one) && ones (hrs l)) = true
    rw [ih]; rfl
theorem w10 {M : Int} {R : List Hr} {v : AVal} (hv : HrsV R v) (hn : R.length ≤ 1000000000) (σ : Store) : Run X (.call 10) [.agg [.int .i64 M, v]] σ = some (.ret, [.agg [.int .i64 M, .list 3 (hrs R) none]], σ) := by
  suffices hg : ∀ tm, tm.length = xf10.ntmps → XOpd.eval tm (.t 0) = (AVal.agg [.int .i64 M, v]).strip → ∃ t, Gives X xf10 tm (.agg [.int .i64 M, .list 3 (hrs R) t]) by
    have hE : ∀ tm, tm.length = xf10.ntmps → XOpd.eval tm (.t 0) = (AVal.agg [.int .i64 M, v]).strip → GivesE X xf10 tm (Told fun w => w = .agg [.int .i64 M, .list 3 (hrs R) none]) := fun tm hl h0 => by
      obtain ⟨t, ht⟩ := hg tm hl h0
      unfold GivesE givesE
      unfold Gives givesR at ht
      revert ht
      rcases Run X (.code xf10.body) tm Store.empty with _ | ⟨e, tm', τ⟩
      · intro h; exact h
      · cases e with
        | exit i => intro h; exact h
        | ret => intro h; simp only at h ⊢; rw [h]; exact ⟨by simp [AVal.strip, stripL, freeL_strip (hrs_fr R), AVal.free, freeL, hrs_fr], by simp [AVal.strip, stripL, freeL_strip (hrs_fr R)]⟩
        | normal => intro h; simp only at h ⊢; rw [h]; exact ⟨by simp [AVal.strip, stripL, freeL_strip (hrs_fr R), AVal.free, freeL, hrs_fr], by simp [AVal.strip, stripL, freeL_strip (hrs_fr R)]⟩
    obtain ⟨w, hw, hr⟩ := call1E (X := X) (a := .agg [.int .i64 M, v]) hX.h10 (by simp [AVal.strip, stripL, AVal.free, freeL, hv.free.1, hv.free.2]) (by decide) hE
    rw [hr, hw]
  intro tm hl h0
  simp only [AVal.strip, stripL, hv.free.2] at h0
  replace hl : tm.length = 10 := hl
  rcases hv with rfl | ⟨rfl, rfl⟩
  · have ho := hrs_ones R
    have hln := hrs_len R
    generalize hM : hrs R = A at *
    cases A with
    | nil =>
      refine ⟨some 2, ?_⟩
      unfold Gives
      simp [xf10, hl, h0, xappend, ones, xload, AVal.cells, AVal.isSlice, AVal.one, xresult, xrets, xret_t, xret_cn, Store.empty, Store.new, Store.put, Store.get, look, putL, setR, Store.only, Store.merge, touch, wrote, upTo, isIn, okRec, hits, capsOf, xcaps, stripL, AVal.strip, freeL, AVal.free, fillR, chunks, mkV, List.filter]
    | cons a l =>
      refine ⟨some 2, ?_⟩
      have h1 : (a :: l).length * 24 ≤ 1000000000000 := by omega
      have h2 : (a :: l).length ≤ 1000000000000 := by omega
      simp only [List.length_cons] at h1 h2
      unfold Gives
      simp [xf10, hl, h0, xappend, ho, h1, h2, xload, AVal.cells, AVal.isSlice, AVal.one, xresult, xrets, xret_t, xret_cn, Store.empty, Store.new, Store.put, Store.get, look, putL, setR, Store.only, Store.merge, touch, wrote, upTo, isIn, okRec, hits, capsOf, xcaps, stripL, AVal.strip, freeL, AVal.free, fillR, chunks, mkV, List.filter]
  · refine ⟨some 2, ?_⟩
    unfold Gives
    simp [xf10, hl, h0, xappend, ones, hrs, xload, AVal.cells, AVal.isSlice, AVal.one, xresult, xrets, xret_t, xret_cn, Store.empty, Store.new, Store.put, Store.get, look, putL, setR, Store.only, Store.merge, touch, wrote, upTo, isIn, okRec, hits, capsOf, xcaps, stripL, AVal.strip, freeL, AVal.free, fillR, chunks, mkV, List.filter]
end
end Go.Proofs.Ytjbegiaceekgcab.Eng

/-
  SEQUENCE: halls: the first rule that is broken.
-/
namespace Go.Proofs.Ytjbegiaceekgcab.Eng
set_option linter.unusedSimpArgs false
set_option linter.unusedVariables false
def fnb (m : Nat) (s : AVal) : AVal := .fn 57 [] [.iptr [.int .i64 m] 0, .iptr [s] 0]
theorem fnb_free {m : Nat} {s : AVal} (h : s.free = true ∧ s.strip = s) : (fnb m s).free = true ∧ (fnb m s).strip = fnb m s := by
  simp [fnb, AVal.free, freeL, AVal.strip, stripL, h.1, h.2]
section
variable {X : FuncId → Option XFunc} (hX : SrLCode X)
include hX
theorem w57 {L : List Int} {s : AVal} (h : IntV L s) (hn : L.length ≤ 1000000000) {m : Nat} (hm : m < L.length) (r : Hr) (σ : Store) : Run X (.call 57) [.agg [.int .i64 r.s, .int .i64 r.o, .int .i64 r.k], .iptr [.int .i64 m] 0, .iptr [s] 0] σ = some (.ret, [.bool (brk L m r)], σ) := by
  refine call3 (a := .agg [.int .i64 r.s, .int .i64 r.o, .int .i64 r.k]) (b := .iptr [.int .i64 m] 0) (c := .iptr [s] 0) (v := .bool (brk L m r)) hX.h57 rfl rfl (by simp [AVal.strip, stripL, AVal.free, freeL, h.free.1, h.free.2]) (by decide) (fun tm hl h0 h1 h2 => ?_) rfl σ
  simp only [AVal.strip, stripL, h.free.2] at h0 h1 h2
  replace hl : tm.length = 10 := hl
  have f1 := h.free.1
  have f2 := h.free.2
  have u := fun σ => w58 hX h hn hm r σ
  unfold Gives
  simp [xf57, hl, h0, h1, h2, f1, f2, u, xload, AVal.cells, Store.empty, Store.new, Store.put, Store.get, look, putL, setR, Store.only, Store.merge, touch, wrote, upTo, isIn, okRec, hits, capsOf, xcaps, stripL, AVal.strip, freeL, AVal.free, fillR, chunks, mkV, List.filter]
theorem loop59 (R : List Hr) {v : AVal} (hv : HrsV R v) (hn : R.length ≤ 1000000000) {L : List Int} {s : AVal} (h : IntV L s) (hnl : L.length ≤ 1000000000) {m : Nat} (hm : m < L.length) : ∀ (k i : Nat), i + k = R.length → ∀ (tm : List AVal) (σ : Store), tm.length = 19 → XOpd.eval tm (.t 0) = v → XOpd.eval tm (.t 1) = fnb m s → XOpd.eval tm (.t 7) = .int .i64 R.length → XOpd.eval tm (.t 8) = .int .i64 i →
    Ends (Run X (.code (.loop xf59l0)) tm σ) (if fiB (brk L m) (R.drop i) i = none then .exit 0 else .ret) fun tm' _ => tm'.length = 19 ∧ ∀ j, fiB (brk L m) (R.drop i) i = some j → XOpd.eval tm' (.t 4) = .int .i64 (j : Nat)
  | 0, i, hk, tm, σ, hl, h0, h1, h7, h8 => by
    have hi : i = R.length := by omega
    subst hi
    rw [Run_loop]
    simp [xf59l0, hl, h0, h1, h7, h8, fiB]
  | k + 1, i, hk, tm, σ, hl, h0, h1, h7, h8 => by
    have hi : i < R.length := by omega
    have hd : R.drop i = R[i] :: R.drop (i + 1) := List.drop_eq_getElem_cons hi
    have hw : IntKind.i64.wrap ((i : Int) + 1) = ((i + 1 : Nat) : Int) := by rw [wrap_i64] <;> omega
    have h0' : XOpd.eval tm (.t 0) = .list 3 (hrs R) none := by rw [h0]; exact hv.ne (by intro e; simp [e] at hi)
    have h1' := h1
    unfold fnb at h1'
    have u := w57 hX h hnl hm
    rw [Run_loop, hd]
    cases he : brk L m R[i] with
    | false =>
      have ih := loop59 R hv hn h hnl hm k (i + 1) (by omega)
      simp only [fiB, he, Bool.false_eq_true, if_false]
      simp [xf59l0, hl, h0', h1', h7, h8, hi, he, hw, u, hrs, Hr.enc, xload, AVal.cells, put_next, new_next, Store.get_new, Store.get_put, put_get, setR, only_get, merge_get', only_next, merge_next, upTo_self, upTo_one, merge_only, touch, wrote, isIn, okRec, hits, capsOf, xcaps, stripL, AVal.strip, freeL, AVal.free, fillR, chunks, mkV]
      exact ih _ _ (by simp [hl]) (by simp [hl, h0]) (by simp [hl, h1]) (by simp [hl, h7]) (by simp [hl])
    | true =>
      simp only [fiB, he, if_true]
      simp [xf59l0, hl, h0', h1', h7, h8, hi, he, u, hrs, Hr.enc, xload, AVal.cells, put_next, new_next, Store.get_new, Store.get_put, put_get, setR, only_get, merge_get', only_next, merge_next, upTo_self, upTo_one, merge_only, touch, wrote, isIn, okRec, hits, capsOf, xcaps, stripL, AVal.strip, freeL, AVal.free, fillR, chunks, mkV]
theorem w59 {R : List Hr} {v : AVal} (hv : HrsV R v) (hn : R.length ≤ 1000000000) {L : List Int} {s : AVal} (h : IntV L s) (hnl : L.length ≤ 1000000000) {m : Nat} (hm : m < L.length) (σ : Store) :
    Run X (.call 59) [v, fnb m s] σ = some (.ret, [.int .i64 (match fiB (brk L m) R 0 with | none => -1 | some j => (j : Int))], σ) := by
  refine call2 (a := v) (b := fnb m s) (v := .int .i64 (match fiB (brk L m) R 0 with | none => -1 | some j => (j : Int))) hX.h59 (by rw [hv.free.2]; exact hv.free.1) (by rw [(fnb_free h.free).2]; exact (fnb_free h.free).1) (by decide) (fun tm hl h0 h1 => ?_) rfl σ
  rw [hv.free.2] at h0
  rw [(fnb_free h.free).2] at h1
  replace hl : tm.length = 19 := hl
  obtain ⟨hln, hdn⟩ := hv.len
  have hL := fun tm σ h1 h2 h3 h4 h5 => out_of (loop59 hX R hv hn h hnl hm R.length 0 (by omega) tm σ h1 h2 h3 h4 h5)
  simp only [List.drop_zero] at hL
  unfold Gives
  cases he : fiB (brk L m) R 0 with
  | none =>
    simp only [he, if_true] at hL
    simp (maxDischargeDepth := 9) [xf59, hl, h0, h1, hL, he, hln, hdn]
  | some j =>
    simp only [he, reduceCtorEq, if_false] at hL
    simp (maxDischargeDepth := 9) [xf59, hl, h0, h1, hL, he, hln, hdn]
end
end Go.Proofs.Ytjbegiaceekgcab.Eng

/-
  SEQUENCE: halls: the first machine for which a rule is broken.
-/
namespace Go.Proofs.Ytjbegiaceekgcab.Eng
set_option linter.unusedSimpArgs false
set_option linter.unusedVariables false
/-- What lies in the memory of brokenIn. -/
def M95 (M : Int) (v s : AVal) (σ : Store) : Prop := σ.get 0 = some (.cells [.int .i64 M, v]) ∧ (σ.get 1 = some (.cells [s]) ∨ σ.get 1 = some (.ro [s])) ∧ σ.get 2 = some (.cells [.int .i64 0, .int .i64 0]) ∧ ∃ N, σ.next = N + 3
section
variable {X : FuncId → Option XFunc} (hX : SrLCode X)
include hX
set_option maxHeartbeats 4000000 in
theorem round33 {M : Int} {R : List Hr} {v s : AVal} (hv : HrsV R v) (hn : R.length ≤ 1000000000) {L : List Int} (h : IntV L s) (hnl : L.length ≤ 1000000000) {i : Nat} (hi : i < L.length) (tm : List AVal) (σ : Store) (hl : tm.length = 26) (h2 : XOpd.eval tm (.t 2) = .ptr 0 0) (h3 : XOpd.eval tm (.t 3) = .ptr 1 0) (h4 : XOpd.eval tm (.t 4) = .ptr 2 0) (h10 : XOpd.eval tm (.t 10) = .int .i64 L.length) (h11 : XOpd.eval tm (.t 11) = .int .i64 i) (hm : M95 M v s σ) :
    (fiB (brk L i) R 0 = none → Ends (Run X (.code xf33l0) tm σ) .normal fun tm' σ' => tm'.length = 26 ∧ XOpd.eval tm' (.t 2) = .ptr 0 0 ∧ XOpd.eval tm' (.t 3) = .ptr 1 0 ∧ XOpd.eval tm' (.t 4) = .ptr 2 0 ∧ XOpd.eval tm' (.t 10) = .int .i64 L.length ∧ XOpd.eval tm' (.t 11) = .int .i64 ((i + 1 : Nat) : Int) ∧ M95 M v s σ') ∧
    ∀ j, fiB (brk L i) R 0 = some j → Ends (Run X (.code xf33l0) tm σ) .ret fun tm' σ' => tm'.length = 26 ∧ XOpd.eval tm' (.t 4) = .ptr 2 0 ∧ XOpd.eval tm' (.t 5) = .bool true ∧ σ'.get 2 = some (.cells [.int .i64 (i : Int), .int .i64 (j : Int)]) := by
  obtain ⟨g0, g1, g2, N, hN⟩ := hm
  have hw : IntKind.i64.wrap ((i : Int) + 1) = ((i + 1 : Nat) : Int) := by rw [wrap_i64] <;> omega
  have hii : (i : Int) < L.length := by omega
  have u := w59 hX hv hn h hnl hi
  unfold fnb at u
  have f1 := h.free.1
  constructor
  · intro he
    simp only [he] at u
    unfold M95
    rcases g1 with g1 | g1
    · simp [xf33l0, hl, h2, h3, h4, h10, h11, hii, hw, f1, u, g0, g1, g2, hN, xload, AVal.cells, put_next, new_next, Store.get_new, Store.get_put, put_get, setR, only_get, merge_get', only_next, merge_next, upTo_self, upTo_one, merge_only, touch, wrote, isIn, okRec, hits, capsOf, xcaps, stripL, AVal.strip, freeL, AVal.free, fillR, chunks, mkV]
    · simp [xf33l0, hl, h2, h3, h4, h10, h11, hii, hw, f1, u, g0, g1, g2, hN, xload, AVal.cells, put_next, new_next, Store.get_new, Store.get_put, put_get, setR, only_get, merge_get', only_next, merge_next, upTo_self, upTo_one, merge_only, touch, wrote, isIn, okRec, hits, capsOf, xcaps, stripL, AVal.strip, freeL, AVal.free, fillR, chunks, mkV]
  · intro j he
    simp only [he] at u
    have hj : (0 : Int) ≤ (j : Int) := by omega
    rcases g1 with g1 | g1
    · simp [xf33l0, hl, h2, h3, h4, h10, h11, hii, hw, f1, u, hj, g0, g1, g2, hN, xload, AVal.cells, put_next, new_next, Store.get_new, Store.get_put, put_get, setR, only_get, merge_get', only_next, merge_next, upTo_self, upTo_one, merge_only, touch, wrote, isIn, okRec, hits, capsOf, xcaps, stripL, AVal.strip, freeL, AVal.free, fillR, chunks, mkV]
    · simp [xf33l0, hl, h2, h3, h4, h10, h11, hii, hw, f1, u, hj, g0, g1, g2, hN, xload, AVal.cells, put_next, new_next, Store.get_new, Store.get_put, put_get, setR, only_get, merge_get', only_next, merge_next, upTo_self, upTo_one, merge_only, touch, wrote, isIn, okRec, hits, capsOf, xcaps, stripL, AVal.strip, freeL, AVal.free, fillR, chunks, mkV]
theorem loop33 {M : Int} {R : List Hr} {v s : AVal} (hv : HrsV R v) (hn : R.length ≤ 1000000000) {L : List Int} (h : IntV L s) (hnl : L.length ≤ 1000000000) : ∀ (k i : Nat), i + k = L.length → ∀ (tm : List AVal) (σ : Store), tm.length = 26 → XOpd.eval tm (.t 2) = .ptr 0 0 → XOpd.eval tm (.t 3) = .ptr 1 0 → XOpd.eval tm (.t 4) = .ptr 2 0 → XOpd.eval tm (.t 10) = .int .i64 L.length → XOpd.eval tm (.t 11) = .int .i64 i → M95 M v s σ →
    Ends (Run X (.code (.loop xf33l0)) tm σ) (if bkn R L k i = none then .exit 0 else .ret) fun tm' σ' => tm'.length = 26 ∧ XOpd.eval tm' (.t 4) = .ptr 2 0 ∧ (bkn R L k i = none → σ'.get 2 = some (.cells [.int .i64 0, .int .i64 0])) ∧ ∀ a b, bkn R L k i = some (a, b) → XOpd.eval tm' (.t 5) = .bool true ∧ σ'.get 2 = some (.cells [.int .i64 (a : Nat), .int .i64 (b : Nat)])
  | 0, i, hk, tm, σ, hl, h2, h3, h4, h10, h11, hm => by
    have hi : i = L.length := by omega
    subst hi
    obtain ⟨g0, g1, g2, N, hN⟩ := hm
    rw [Run_loop]
    simp [xf33l0, hl, h4, h10, h11, g2, bkn]
  | k + 1, i, hk, tm, σ, hl, h2, h3, h4, h10, h11, hm => by
    obtain ⟨r1, r2⟩ := round33 hX hv hn h hnl (show i < L.length by omega) tm σ hl h2 h3 h4 h10 h11 hm
    rw [Run_loop]
    cases he : fiB (brk L i) R 0 with
    | none =>
      obtain ⟨o1, p1, p2, p3, p4, p5, p6, p7⟩ := out_of (r1 he)
      simp only [bkn, he]
      rw [o1, thenC_normal]
      exact loop33 hv hn h hnl k (i + 1) (by omega) _ _ p1 p2 p3 p4 p5 p6 p7
    | some j =>
      obtain ⟨o1, p1, p2, p3, p4⟩ := out_of (r2 j he)
      simp only [bkn, he]
      rw [o1, thenC_ret]
      refine ⟨_, _, rfl, p1, p2, ?_, ?_⟩
      · intro e; cases e
      · intro a b e; cases e; exact ⟨p3, p4⟩
theorem w33 {M : Int} {R : List Hr} {v s : AVal} (hv : HrsV R v) (hn : R.length ≤ 1000000000) {L : List Int} (h : IntV L s) (hnl : L.length ≤ 1000000000) (σ : Store) : Run X (.call 33) [.agg [.int .i64 M, v], s] σ = some (.ret, [bkV (bkn R L L.length 0)], σ) := by
  have e2 : (bkV (bkn R L L.length 0)).strip.free = true := by
    cases bkn R L L.length 0 with
    | none => rfl
    | some ab => rfl
  have e1 : (bkV (bkn R L L.length 0)).strip = bkV (bkn R L L.length 0) := by
    cases bkn R L L.length 0 with
    | none => rfl
    | some ab => rfl
  suffices hg : ∀ tm, tm.length = xf33.ntmps → XOpd.eval tm (.t 0) = (AVal.agg [.int .i64 M, v]).strip → XOpd.eval tm (.t 1) = s.strip → Gives X xf33 tm (bkV (bkn R L L.length 0)) by
    have key := call2 (X := X) (a := .agg [.int .i64 M, v]) (b := s) (v := bkV (bkn R L L.length 0)) hX.h33 (by simp [AVal.strip, stripL, AVal.free, freeL, hv.free.1, hv.free.2]) (by rw [h.free.2]; exact h.free.1) (by decide) hg e2 σ
    rwa [e1] at key
  intro tm hl h0 h1
  simp only [AVal.strip, stripL, hv.free.2] at h0
  rw [h.free.2] at h1
  replace hl : tm.length = 26 := hl
  obtain ⟨hln, hdn⟩ := h.len
  have eP : Ends (Run X (.code (XCode.cutP 1 xf33.body)) tm Store.empty) .normal fun tm' σ' => tm'.length = 26 ∧ XOpd.eval tm' (.t 2) = .ptr 0 0 ∧ XOpd.eval tm' (.t 3) = .ptr 1 0 ∧ XOpd.eval tm' (.t 4) = .ptr 2 0 ∧ XOpd.eval tm' (.t 10) = .int .i64 L.length ∧ XOpd.eval tm' (.t 11) = .int .i64 (0 : Nat) ∧ M95 M v s σ' := by
    unfold M95
    rcases h with e | ⟨e, _⟩
    · rw [e] at h1 hln hdn ⊢
      simp [xf33, XCode.cutP, hl, h0, h1, hln, hdn, xload, AVal.cells, Store.empty, Store.new, Store.put, Store.get, look, putL, setR, Store.only, Store.merge, touch, wrote, upTo, isIn, okRec, hits, capsOf, xcaps, stripL, AVal.strip, freeL, AVal.free, fillR, chunks, mkV, List.filter]
    · rw [e] at h1 hln hdn ⊢
      simp [xf33, XCode.cutP, hl, h0, h1, hln, hdn, xload, AVal.cells, Store.empty, Store.new, Store.put, Store.get, look, putL, setR, Store.only, Store.merge, touch, wrote, upTo, isIn, okRec, hits, capsOf, xcaps, stripL, AVal.strip, freeL, AVal.free, fillR, chunks, mkV, List.filter]
  obtain ⟨oP, p1, p2, p3, p4, p5, p6, p7⟩ := out_of eP
  obtain ⟨q1, q2, q3, q4, q5⟩ := out_of (loop33 hX hv hn h hnl L.length 0 (by omega) _ _ p1 p2 p3 p4 p5 p6 p7)
  unfold Gives
  rw [Run_cut 1, oP, thenC_normal, show XCode.cutB 1 xf33.body = .block 0 (.loop xf33l0) from rfl, Run_block, q1]
  generalize outT X (.loop xf33l0) _ _ = tm3 at *
  generalize outS X (.loop xf33l0) _ _ = σ3 at *
  cases hb : bkn R L L.length 0 with
  | none =>
    have q4' := q4 hb
    simp [xf33, XCode.cutR, bkV, q2, q3, q4', xload, AVal.cells, xresult, xrets, xret_t, xret_cn, put_next, new_next, Store.get_new, Store.get_put, put_get, setR, only_get, merge_get', only_next, merge_next, upTo_self, upTo_one, merge_only, touch, wrote, isIn, okRec, hits, capsOf, xcaps, stripL, AVal.strip, freeL, AVal.free, fillR, chunks, mkV]
  | some ab =>
    obtain ⟨a, b⟩ := ab
    obtain ⟨q6, q7⟩ := q5 a b hb
    simp [xf33, XCode.cutR, bkV, q2, q3, q6, q7, xload, AVal.cells, xresult, xrets, xret_t, xret_cn, put_next, new_next, Store.get_new, Store.get_put, put_get, setR, only_get, merge_get', only_next, merge_next, upTo_self, upTo_one, merge_only, touch, wrote, isIn, okRec, hits, capsOf, xcaps, stripL, AVal.strip, freeL, AVal.free, fillR, chunks, mkV]
end
end Go.Proofs.Ytjbegiaceekgcab.Eng

/-
  SEQUENCE: halls: what is broken; a machine enters a step.
-/
namespace Go.Proofs.Ytjbegiaceekgcab.Eng
set_option linter.unusedSimpArgs false
set_option linter.unusedVariables false
/-- The first rule that is broken, of a hall with steps; or the error. -/
def brokenE (M : Int) (R : List Hr) (L : List Int) : AVal := if stepsE M R L = 0 then (match bkn R L L.length 0 with
  | none => .tup [.agg [.int .i64 0, .int .i64 0], .int .i64 12]
  | some (m, k) => .tup [.agg [.int .i64 (m : Nat), .int .i64 (k : Nat)], .int .i64 0]) else .tup [.agg [.int .i64 0, .int .i64 0], .int .i64 (stepsE M R L)]
theorem brokenE_flat (M : Int) (R : List Hr) (L : List Int) : (brokenE M R L).strip.free = true ∧ (brokenE M R L).strip = brokenE M R L := by
  unfold brokenE
  split
  · cases bkn R L L.length 0 with
    | none => exact ⟨rfl, rfl⟩
    | some ab => exact ⟨rfl, rfl⟩
  · exact ⟨rfl, rfl⟩
section
variable {X : FuncId → Option XFunc} (hX : SrLCode X)
include hX
set_option maxHeartbeats 4000000 in
theorem w9 {M : Int} {R : List Hr} {v s : AVal} (hv : HrsV R v) (hn : R.length ≤ 1000000000) {L : List Int} (h : IntV L s) (hnl : L.length ≤ 1000000000) (σ : Store) : Run X (.call 9) [.agg [.int .i64 M, v], s] σ = some (.ret, [brokenE M R L], σ) := by
  obtain ⟨e2, e1⟩ := brokenE_flat M R L
  suffices hg : ∀ tm, tm.length = xf9.ntmps → XOpd.eval tm (.t 0) = (AVal.agg [.int .i64 M, v]).strip → XOpd.eval tm (.t 1) = s.strip → Gives X xf9 tm (brokenE M R L) by
    have key := call2 (X := X) (a := .agg [.int .i64 M, v]) (b := s) (v := brokenE M R L) hX.h9 (by simp [AVal.strip, stripL, AVal.free, freeL, hv.free.1, hv.free.2]) (by rw [h.free.2]; exact h.free.1) (by decide) hg e2 σ
    rwa [e1] at key
  intro tm hl h0 h1
  simp only [AVal.strip, stripL, hv.free.2] at h0
  rw [h.free.2] at h1
  replace hl : tm.length = 25 := hl
  have f1 := hv.free.1
  have f2 := hv.free.2
  have g1 := h.free.1
  have g2 := h.free.2
  have u1 := w32 hX (M := M) hv h hn hnl
  have u2 := w33 hX (M := M) hv hn h hnl
  have u3 := w34 hX
  have hmv : ∀ σ, xmovf σ s.down = some (s, σ) := fun σ => by rcases h with rfl | ⟨rfl, _⟩ <;> rfl
  unfold brokenE
  unfold Gives
  by_cases he : stepsE M R L = 0
  · cases hb : bkn R L L.length 0 with
    | none =>
      rw [hb] at u2
      simp [xf9, hl, h0, h1, f1, f2, g1, g2, u1, u2, u3, he, hmv, bkV, xload, AVal.cells, xresult, xrets, xret_t, xret_cn, Store.empty, Store.new, Store.put, Store.get, look, putL, setR, Store.only, Store.merge, touch, wrote, upTo, isIn, okRec, hits, capsOf, xcaps, stripL, AVal.strip, freeL, AVal.free, fillR, chunks, mkV, List.filter]
    | some ab =>
      obtain ⟨a, b⟩ := ab
      rw [hb] at u2
      simp [xf9, hl, h0, h1, f1, f2, g1, g2, u1, u2, u3, he, hmv, bkV, xload, AVal.cells, xresult, xrets, xret_t, xret_cn, Store.empty, Store.new, Store.put, Store.get, look, putL, setR, Store.only, Store.merge, touch, wrote, upTo, isIn, okRec, hits, capsOf, xcaps, stripL, AVal.strip, freeL, AVal.free, fillR, chunks, mkV, List.filter]
  · simp [xf9, hl, h0, h1, f1, f2, g1, g2, u1, u2, u3, he, xload, AVal.cells, xresult, xrets, xret_t, xret_cn, Store.empty, Store.new, Store.put, Store.get, look, putL, setR, Store.only, Store.merge, touch, wrote, upTo, isIn, okRec, hits, capsOf, xcaps, stripL, AVal.strip, freeL, AVal.free, fillR, chunks, mkV, List.filter]
theorem clone38 {L : List Int} (h0 : L ≠ []) (hn : L.length ≤ 1000000000) (σ : Store) :
    ∃ n τ, Run X (.callK 38) [.list 1 (ints L) none] σ = some (.ret, [.vlist 3 1 n L.length], τ) ∧ σ.next ≤ n ∧ n < τ.next ∧ τ.get n = some (.cells (ints L)) ∧ (∀ m, m < σ.next → τ.get m = σ.get m) := by
  obtain ⟨N, hN⟩ : ∃ N, σ.next = N := ⟨_, rfl⟩
  have hk : (σ.new (.tok 3 1 0)).get N = some (.tok 3 1 0) := by rw [Store.get_new, hN, Mem.put_self]
  have hap := apV h0 hn hk
  have e : Ends (Run X (.code xf38.body) (frame [.list 1 (ints L) none] 8) σ) .ret fun tm' σ' => tm'.length = 8 ∧ XOpd.eval tm' (.t 2) = .vlist 3 1 (N + 1) L.length ∧ σ' = ((σ.new (.tok 3 1 0)).put N .gone).new (.cells (ints L)) := by
    have hl : (frame [.list 1 (ints L) none] 8).length = 8 := rfl
    have h0 := frame_0 (.list 1 (ints L) none) [] 8
    have nx : (σ.new (.tok 3 1 0)).next = N + 1 := by show σ.next + 1 = _; rw [hN]
    rw [nx] at hap
    generalize frame [.list 1 (ints L) none] 8 = tm at *
    simp [xf38, hl, h0, hN, hap, fillR, chunks]
  obtain ⟨o1, p1, p2, p3⟩ := out_of e
  generalize outT X xf38.body _ _ = tm3 at *
  generalize outS X xf38.body _ _ = σ3 at *
  refine ⟨N + 1, _, Run_callK hX.h38 (by simp) o1 (by simp [xf38, xresult_one, xret_t, p2]), by omega, ?_, ?_, fun m hm => ?_⟩
  · rw [gc_all, p3]; show N + 1 < σ.next + 1 + 1; omega
  · rw [gc_all, p3, Store.get_new]
    have : ((σ.new (.tok 3 1 0)).put N .gone).next = N + 1 := by show σ.next + 1 = _; rw [hN]
    rw [this, Mem.put_self]
  · rw [gc_all, p3, Store.get_new, Mem.put_ne _ (by show σ.next + 1 ≠ m; omega), Store.get_put, Mem.put_ne _ (by omega), Store.get_new, Mem.put_ne _ (by omega)]
end
end Go.Proofs.Ytjbegiaceekgcab.Eng

/-
  SEQUENCE: halls: the reference's checks.
-/
namespace Go.Proofs.Ytjbegiaceekgcab.Eng
set_option linter.unusedSimpArgs false
set_option linter.unusedVariables false
section
variable {X : FuncId → Option XFunc} (hX : SrLCode X)
include hX
theorem w11 {L : List Int} {s : AVal} (h : IntV L s) (hn : L.length ≤ 1000000000) (σ : Store) : Run X (.call 11) [s] σ = some (.ret, [.list 1 (ints L) none], σ) := by
  refine call1S (a := s) (y := .list 1 (ints L) none) hX.h11 (by rw [h.free.2]; exact h.free.1) (by decide) (fun tm hl h0 => ?_) σ
  rw [h.free.2] at h0
  replace hl : tm.length = 6 := hl
  unfold Seals
  by_cases hne : L = []
  · subst hne
    rcases h with e | ⟨e, _⟩
    · rw [e] at h0
      simp [xf11, hl, h0, xappendV, xappendW, ints, ones, AVal.isSlice, sealsR, sealsO, sealR, xresult_one, xret_t, Store.empty, Store.new, Store.put, Store.get, look, putL, setR, Store.only, Store.merge, touch, wrote, upTo, isIn, okRec, hits, capsOf, xcaps, stripL, AVal.strip, freeL, AVal.free, fillR, chunks, mkV, List.filter]
    · rw [e] at h0
      simp [xf11, hl, h0, xappendV, xappendW, ints, ones, AVal.isSlice, sealsR, sealsO, sealR, xresult_one, xret_t, Store.empty, Store.new, Store.put, Store.get, look, putL, setR, Store.only, Store.merge, touch, wrote, upTo, isIn, okRec, hits, capsOf, xcaps, stripL, AVal.strip, freeL, AVal.free, fillR, chunks, mkV, List.filter]
  · rw [h.ne hne] at h0
    have hap := apV hne hn (k := 0) (σ := ⟨[(0, .tok 3 1 0)], 1⟩) rfl
    have hse : sealR ⟨[(0, .gone), (1, .cells (ints L))], 2⟩ (.vlist 3 1 1 L.length) = some (.list 1 (ints L) none) := sealR_vints rfl
    simp only [Store.put, Store.new, putL] at hap
    simp at hap
    simp [xf11, hl, h0, hap, hse, fillR, chunks, sealsR, sealsO, xresult_one, xret_t, Store.empty, Store.new, Store.put, putL]
theorem loop30 (R : List Hr) {M : Int} {v : AVal} (hv : HrsV R v) (hn : R.length ≤ 1000000000) : ∀ (k i : Nat), i + k = R.length → ∀ (tm : List AVal) (σ : Store), tm.length = 42 → XOpd.eval tm (.t 1) = .ptr 0 0 → XOpd.eval tm (.t 4) = .int .i64 i → σ.get 0 = some (.cells [.int .i64 M, v]) → (∃ N, σ.next = N + 1) →
    Ends (Run X (.code (.loop xf30l0)) tm σ) (if (fiE Hr.e (R.drop i) i).2 = 0 then .exit 0 else .ret) fun tm' _ => tm'.length = 42 ∧ ((fiE Hr.e (R.drop i) i).2 ≠ 0 → XOpd.eval tm' (.t 2) = .int .i64 (fiE Hr.e (R.drop i) i).1 ∧ XOpd.eval tm' (.t 3) = .int .i64 (fiE Hr.e (R.drop i) i).2)
  | 0, i, hk, tm, σ, hl, h1, h4, g0, ⟨N, hN⟩ => by
    have hi : i = R.length := by omega
    subst hi
    obtain ⟨kln, kdn⟩ := hv.len
    rw [Run_loop]
    simp [xf30l0, hl, h1, h4, g0, kln, kdn, fiE, xload]
  | k + 1, i, hk, tm, σ, hl, h1, h4, g0, ⟨N, hN⟩ => by
    have hi : i < R.length := by omega
    have hii : (i : Int) < R.length := by omega
    have hd : R.drop i = R[i] :: R.drop (i + 1) := List.drop_eq_getElem_cons hi
    have hw : IntKind.i64.wrap ((i : Int) + 1) = ((i + 1 : Nat) : Int) := by rw [wrap_i64] <;> omega
    have hv' : v = .list 3 (hrs R) none := hv.ne (by intro e; simp [e] at hi)
    have g0' := g0
    rw [hv'] at g0'
    have u := w31 hX
    have u2 := w13 hX
    have gi : ∀ (hq : i < (hrs R).length), (hrs R)[i] = .agg [.int .i64 R[i].s, .int .i64 R[i].o, .int .i64 R[i].k] := fun hq => by simp [hrs, Hr.enc]
    have hi' : i < (hrs R).length := by rw [hrs_len]; exact hi
    have hln := hrs_len R
    rw [Run_loop, hd]
    have ih := loop30 R (M := M) hv hn k (i + 1) (by omega)
    generalize hA : hrs R = A at *
    cases c1 : win R[i].s 0 9 with
    | false =>
      have he : R[i].e = 6 := by simp [Hr.e, firstNZ, chs, c1]
      simp only [fiE, he]
      simp [xf30l0, hl, h1, h4, hi, hii, hi', hln, gi, u, u2, c1, g0', hN, xload, xlen, AVal.cells, put_next, new_next, Store.get_new, Store.get_put, put_get, setR, only_get, merge_get', only_next, merge_next, upTo_self, upTo_one, merge_only, touch, wrote, isIn, okRec, hits, capsOf, xcaps, stripL, AVal.strip, freeL, AVal.free, fillR, chunks, mkV]
    | true =>
      cases c2 : win R[i].o 0 9 with
      | false =>
        have he : R[i].e = 6 := by simp [Hr.e, firstNZ, chs, c1, c2]
        simp only [fiE, he]
        simp [xf30l0, hl, h1, h4, hi, hii, hi', hln, gi, u, u2, c1, c2, g0', hN, xload, xlen, AVal.cells, put_next, new_next, Store.get_new, Store.get_put, put_get, setR, only_get, merge_get', only_next, merge_next, upTo_self, upTo_one, merge_only, touch, wrote, isIn, okRec, hits, capsOf, xcaps, stripL, AVal.strip, freeL, AVal.free, fillR, chunks, mkV]
      | true =>
        cases c3 : win R[i].k 0 1 with
        | false =>
          have he : R[i].e = 15 := by simp [Hr.e, firstNZ, chs, c1, c2, c3]
          simp only [fiE, he]
          simp [xf30l0, hl, h1, h4, hi, hii, hi', hln, gi, u, u2, c1, c2, c3, g0', hN, xload, xlen, AVal.cells, put_next, new_next, Store.get_new, Store.get_put, put_get, setR, only_get, merge_get', only_next, merge_next, upTo_self, upTo_one, merge_only, touch, wrote, isIn, okRec, hits, capsOf, xcaps, stripL, AVal.strip, freeL, AVal.free, fillR, chunks, mkV]
        | true =>
          have he : R[i].e = 0 := by simp [Hr.e, firstNZ, chs, c1, c2, c3]
          simp only [fiE, he, if_true]
          have key : Ends (Run X (.code xf30l0) tm σ) .normal fun tm' σ' => tm'.length = 42 ∧ XOpd.eval tm' (.t 1) = .ptr 0 0 ∧ XOpd.eval tm' (.t 4) = .int .i64 ((i + 1 : Nat) : Int) ∧ σ'.get 0 = some (.cells [.int .i64 M, v]) ∧ ∃ N, σ'.next = N + 1 := by
            rw [hv']
            simp [xf30l0, hl, h1, h4, hi, hii, hi', hln, hw, gi, u, u2, c1, c2, c3, g0', hN, xload, xlen, AVal.cells, put_next, new_next, Store.get_new, Store.get_put, put_get, setR, only_get, merge_get', only_next, merge_next, upTo_self, upTo_one, merge_only, touch, wrote, isIn, okRec, hits, capsOf, xcaps, stripL, AVal.strip, freeL, AVal.free, fillR, chunks, mkV]
          obtain ⟨o1, p1, p2, p3, p4, p5⟩ := out_of key
          rw [o1, thenC_normal]
          exact ih _ _ p1 p2 p3 p4 p5
theorem w30 {M : Int} {R : List Hr} {v : AVal} (hv : HrsV R v) (hn : R.length ≤ 1000000000) (σ : Store) : Run X (.call 30) [.agg [.int .i64 M, v]] σ = some (.ret, [.tup [.int .i64 (hallE M R).1, .int .i64 (hallE M R).2]], σ) := by
  refine call1 (a := .agg [.int .i64 M, v]) (v := .tup [.int .i64 (hallE M R).1, .int .i64 (hallE M R).2]) hX.h30 (by simp [AVal.strip, stripL, AVal.free, freeL, hv.free.1, hv.free.2]) (by decide) (fun tm hl h0 => ?_) rfl σ
  simp only [AVal.strip, stripL, hv.free.2] at h0
  replace hl : tm.length = 42 := hl
  have f1 := hv.free.1
  have f2 := hv.free.2
  obtain ⟨kln, kdn⟩ := hv.len
  have u := w13 hX
  unfold hallE
  unfold Gives
  cases c1 : win M 1 6 with
  | false =>
    have hE : firstNZ [if false = true then 0 else 2, if R.length ≤ 12 then 0 else 8] = 2 := by simp [firstNZ]
    simp only [hE]
    simp [xf30, hl, h0, u, c1, xload, AVal.cells, xresult, xrets, xret_t, Store.empty, Store.new, Store.put, Store.get, look, putL, setR, Store.only, Store.merge, touch, wrote, upTo, isIn, okRec, hits, capsOf, xcaps, stripL, AVal.strip, freeL, AVal.free, fillR, chunks, mkV, List.filter]
  | true =>
    by_cases c2 : R.length ≤ 12
    · have c2' : ¬ (12 : Int) < R.length := by omega
      have hE : firstNZ [if true = true then 0 else 2, if R.length ≤ 12 then 0 else 8] = 0 := by simp [firstNZ, c2]
      simp only [hE, if_true]
      have hL := fun tm σ h1 h2 h3 h4 h5 => out_of (loop30 hX R (M := M) hv hn R.length 0 (by omega) tm σ h1 h2 h3 h4 h5)
      simp only [List.drop_zero] at hL
      have eP : Ends (Run X (.code (XCode.cutP 3 xf30.body)) tm Store.empty) .normal fun tm' σ' => tm'.length = 42 ∧ XOpd.eval tm' (.t 1) = .ptr 0 0 ∧ XOpd.eval tm' (.t 4) = .int .i64 ((0 : Nat) : Int) ∧ σ'.get 0 = some (.cells [.int .i64 M, v]) ∧ ∃ N, σ'.next = N + 1 := by
        simp [xf30, XCode.cutP, hl, h0, u, c1, c2', kln, kdn, xload, AVal.cells, Store.empty, Store.new, Store.put, Store.get, look, putL, setR, Store.only, Store.merge, touch, wrote, upTo, isIn, okRec, hits, capsOf, xcaps, stripL, AVal.strip, freeL, AVal.free, fillR, chunks, mkV, List.filter]
      obtain ⟨o1, p1, p2, p3, p4, p5⟩ := out_of eP
      obtain ⟨q1, q2, q3⟩ := hL _ _ p1 p2 p3 p4 p5
      rw [Run_cut 3, o1, thenC_normal, show XCode.cutB 3 xf30.body = .block 0 (.loop xf30l0) from rfl, Run_block, q1]
      generalize outT X (.loop xf30l0) _ _ = tm3 at *
      generalize outS X (.loop xf30l0) _ _ = σ3 at *
      by_cases he : (fiE Hr.e R 0).2 = 0
      · have e1 : (fiE Hr.e R 0).1 = 0 := fiE_zero he
        simp [xf30, XCode.cutR, q2, he, e1, c2, firstNZ, xresult, xrets, xret_t]
      · obtain ⟨q4, q5⟩ := q3 he
        simp [xf30, XCode.cutR, q2, he, q4, q5, c2, firstNZ, xresult, xrets, xret_t]
    · have c2' : (12 : Int) < R.length := by omega
      simp [xf30, hl, h0, u, c1, c2, c2', kln, kdn, firstNZ, xload, AVal.cells, xresult, xrets, xret_t, Store.empty, Store.new, Store.put, Store.get, look, putL, setR, Store.only, Store.merge, touch, wrote, upTo, isIn, okRec, hits, capsOf, xcaps, stripL, AVal.strip, freeL, AVal.free, fillR, chunks, mkV, List.filter]
theorem loop8 (L : List Int) {s : AVal} (hs : IntV L s) (hn : L.length ≤ 1000000000) : ∀ (k i : Nat), i + k = L.length → ∀ (tm : List AVal) (σ : Store), tm.length = 23 → XOpd.eval tm (.t 1) = s → XOpd.eval tm (.t 5) = .int .i64 i →
    Ends (Run X (.code (.loop xf8l0)) tm σ) (if (fiE chs (L.drop i) i).2 = 0 then .exit 0 else .ret) fun tm' _ => tm'.length = 23 ∧ ((fiE chs (L.drop i) i).2 ≠ 0 → XOpd.eval tm' (.t 4) = .int .i64 (fiE chs (L.drop i) i).2)
  | 0, i, hk, tm, σ, hl, h1, h5 => by
    have hi : i = L.length := by omega
    subst hi
    obtain ⟨kln, kdn⟩ := hs.len
    rw [Run_loop]
    simp [xf8l0, hl, h1, h5, kln, kdn, fiE]
  | k + 1, i, hk, tm, σ, hl, h1, h5 => by
    have hi : i < L.length := by omega
    have hd : L.drop i = L[i] :: L.drop (i + 1) := List.drop_eq_getElem_cons hi
    have hw : IntKind.i64.wrap ((i : Int) + 1) = ((i + 1 : Nat) : Int) := by rw [wrap_i64] <;> omega
    have h1' : XOpd.eval tm (.t 1) = .list 1 (ints L) none := by rw [h1]; exact hs.ne (by intro e; simp [e] at hi)
    have u := w31 hX
    have ih := loop8 L hs hn k (i + 1) (by omega)
    rw [Run_loop, hd]
    cases c : win L[i] 0 9 with
    | true =>
      have he : chs L[i] = 0 := by simp [chs, c]
      simp only [fiE, he, if_true]
      simp [xf8l0, hl, h1', h5, hi, hw, u, c, ints, xload, xlen, AVal.cells]
      exact ih _ _ (by simp [hl]) (by simp [hl, h1]) (by simp [hl])
    | false =>
      have he : chs L[i] = 6 := by simp [chs, c]
      simp only [fiE, he]
      simp [xf8l0, hl, h1', h5, hi, hw, u, c, ints, xload, xlen, AVal.cells]
omit hX in
def sErr (M : Int) (L : List Int) : Int := if (L.length : Int) = M then (fiE chs L 0).2 else 10
theorem w8 {M : Int} {R : List Hr} {v s : AVal} (hv : HrsV R v) {L : List Int} (h : IntV L s) (hn : L.length ≤ 1000000000) (σ : Store) : Run X (.call 8) [.agg [.int .i64 M, v], s] σ = some (.ret, [.int .i64 (sErr M L)], σ) := by
  refine call2 (a := .agg [.int .i64 M, v]) (b := s) (v := .int .i64 (sErr M L)) hX.h8 (by simp [AVal.strip, stripL, AVal.free, freeL, hv.free.1, hv.free.2]) (by rw [h.free.2]; exact h.free.1) (by decide) (fun tm hl h0 h1 => ?_) rfl σ
  simp only [AVal.strip, stripL, hv.free.2] at h0
  rw [h.free.2] at h1
  replace hl : tm.length = 23 := hl
  obtain ⟨hln, hdn⟩ := h.len
  have hL := fun tm σ h1 h2 h3 => out_of (loop8 hX L h hn L.length 0 (by omega) tm σ h1 h2 h3)
  simp only [List.drop_zero] at hL
  unfold sErr
  unfold Gives
  by_cases c : (L.length : Int) = M
  · simp only [c, if_true]
    by_cases he : (fiE chs L 0).2 = 0
    · simp only [he, if_true] at hL
      simp (maxDischargeDepth := 9) [xf8, hl, h0, h1, hL, he, c, hln, hdn, xload, AVal.cells, Store.empty, Store.new, Store.put, Store.get, look, putL, setR, Store.only, Store.merge, touch, wrote, upTo, isIn, okRec, hits, capsOf, xcaps, stripL, AVal.strip, freeL, AVal.free, fillR, chunks, mkV, List.filter]
    · simp only [he, if_false] at hL
      simp (maxDischargeDepth := 9) [xf8, hl, h0, h1, hL, he, c, hln, hdn, xload, AVal.cells, Store.empty, Store.new, Store.put, Store.get, look, putL, setR, Store.only, Store.merge, touch, wrote, upTo, isIn, okRec, hits, capsOf, xcaps, stripL, AVal.strip, freeL, AVal.free, fillR, chunks, mkV, List.filter]
  · simp only [c, if_false]
    simp [xf8, hl, h0, h1, c, hln, hdn, xload, AVal.cells, Store.empty, Store.new, Store.put, Store.get, look, putL, setR, Store.only, Store.merge, touch, wrote, upTo, isIn, okRec, hits, capsOf, xcaps, stripL, AVal.strip, freeL, AVal.free, fillR, chunks, mkV, List.filter]
end
end Go.Proofs.Ytjbegiaceekgcab.Eng

/-
  SEQUENCE: interlocked: the law's loops over rules and machines.
-/
namespace Go.Proofs.Ytjbegiaceekgcab.Eng
set_option linter.unusedSimpArgs false
set_option linter.unusedVariables false
def G3 (w : AVal) (L : List Int) (n : Nat) (tm : List AVal) : Prop := tm.length = 168 ∧ XOpd.eval tm (.t 2) = w ∧ XOpd.eval tm (.t 3) = .ptr 0 0 ∧ XOpd.eval tm (.t 9) = .list 1 (ints L) none ∧ XOpd.eval tm (.t 10) = .int .i64 (n : Int)
def H3 (k J a : Nat) (tm : List AVal) : Prop := XOpd.eval tm (.t 13) = .int .i64 (k : Int) ∧ XOpd.eval tm (.t 14) = .ptr (J + 2) 0 ∧ XOpd.eval tm (.t 15) = .int .i64 (a : Int)
def M3 (M : Int) (v : AVal) (J : Nat) (r : Hr) (σ : Store) : Prop := σ.get 0 = some (.cells [.int .i64 M, v]) ∧ σ.get (J + 2) = some (.cells [.int .i64 r.s, .int .i64 r.o, .int .i64 r.k]) ∧ ∃ N, σ.next = J + N + 3
section
variable {X : FuncId → Option XFunc}
set_option maxHeartbeats 8000000 in
theorem rd0 {M : Int} {v w : AVal} {L : List Int} (hn : L.length ≤ 1000) {n k J a b : Nat} {r : Hr} (hb : b < L.length) (c : Bool) (tm : List AVal) (σ : Store) (hG : G3 w L n tm) (hH : H3 k J a tm) (h16 : XOpd.eval tm (.t 16) = .bool c) (h17 : XOpd.eval tm (.t 17) = .int .i64 (b : Int)) (hM : M3 M v J r σ) :
    Ends (Run X (.code xf3l0) tm σ) .normal fun tm' σ' => G3 w L n tm' ∧ H3 k J a tm' ∧ XOpd.eval tm' (.t 16) = .bool (c || (decide ((a : Int) ≠ (b : Int)) && decide (L[b] = r.o))) ∧ XOpd.eval tm' (.t 17) = .int .i64 ((b + 1 : Nat) : Int) ∧ M3 M v J r σ' := by
  obtain ⟨hl, h2, h3, h9, h10⟩ := hG
  obtain ⟨h13, h14, h15⟩ := hH
  obtain ⟨g0, g1, N, hN⟩ := hM
  have hw : IntKind.i64.wrap ((b : Int) + 1) = ((b + 1 : Nat) : Int) := by rw [wrap_i64] <;> omega
  have hlm := ints_len L
  have gm : ∀ (hq : b < (ints L).length), (ints L)[b] = .int .i64 L[b] := fun hq => by simp [ints]
  have hb' : b < (ints L).length := by rw [ints_len]; exact hb
  unfold G3 H3 M3
  generalize ints L = B at *
  cases c
  · by_cases e1 : a = b
    · subst e1
      simp [xf3l0, hl, h2, h3, h9, h10, h13, h14, h15, h16, h17, hb, hb', hlm, gm, hw, g0, g1, hN, xload, xlen, AVal.cells, put_next, new_next, Store.get_new, Store.get_put, put_get, setR, only_get, merge_get', only_next, merge_next, upTo_self, upTo_one, merge_only, touch, wrote, isIn, okRec, hits, capsOf, xcaps, stripL, AVal.strip, freeL, AVal.free, fillR, chunks, mkV]
    · have e1' : ¬ (a : Int) = (b : Int) := by omega
      by_cases e2 : L[b] = r.o
      · simp [xf3l0, hl, h2, h3, h9, h10, h13, h14, h15, h16, h17, hb, hb', hlm, gm, hw, e1, e1', e2, g0, g1, hN, xload, xlen, AVal.cells, put_next, new_next, Store.get_new, Store.get_put, put_get, setR, only_get, merge_get', only_next, merge_next, upTo_self, upTo_one, merge_only, touch, wrote, isIn, okRec, hits, capsOf, xcaps, stripL, AVal.strip, freeL, AVal.free, fillR, chunks, mkV]
      · simp [xf3l0, hl, h2, h3, h9, h10, h13, h14, h15, h16, h17, hb, hb', hlm, gm, hw, e1, e1', e2, g0, g1, hN, xload, xlen, AVal.cells, put_next, new_next, Store.get_new, Store.get_put, put_get, setR, only_get, merge_get', only_next, merge_next, upTo_self, upTo_one, merge_only, touch, wrote, isIn, okRec, hits, capsOf, xcaps, stripL, AVal.strip, freeL, AVal.free, fillR, chunks, mkV]
  · simp [xf3l0, hl, h2, h3, h9, h10, h13, h14, h15, h16, h17, hb, hb', hlm, gm, hw, g0, g1, hN, xload, xlen, AVal.cells, put_next, new_next, Store.get_new, Store.get_put, put_get, setR, only_get, merge_get', only_next, merge_next, upTo_self, upTo_one, merge_only, touch, wrote, isIn, okRec, hits, capsOf, xcaps, stripL, AVal.strip, freeL, AVal.free, fillR, chunks, mkV]
theorem lp0 {M : Int} {v w : AVal} {L : List Int} (hn : L.length ≤ 1000) {n k J a : Nat} {r : Hr} : ∀ (rem b : Nat), b + rem = L.length → ∀ (c : Bool) (tm : List AVal) (σ : Store), G3 w L n tm → H3 k J a tm → XOpd.eval tm (.t 16) = .bool c → XOpd.eval tm (.t 17) = .int .i64 (b : Int) → M3 M v J r σ →
    Ends (Run X (.code (.loop xf3l0)) tm σ) (.exit 6) fun tm' σ' => G3 w L n tm' ∧ H3 k J a tm' ∧ XOpd.eval tm' (.t 16) = .bool (thr a r.o (L.drop b) b c) ∧ M3 M v J r σ'
  | 0, b, hk, c, tm, σ, hG, hH, h16, h17, hM => by
    have hi : b = L.length := by omega
    subst hi
    obtain ⟨hl, h2, h3, h9, h10⟩ := hG
    obtain ⟨h13, h14, h15⟩ := hH
    have hlm := ints_len L
    rw [Run_loop]
    unfold G3 H3
    simp [xf3l0, hl, h2, h3, h9, h10, h13, h14, h15, h16, h17, hlm, xlen, thr, hM]
  | rem + 1, b, hk, c, tm, σ, hG, hH, h16, h17, hM => by
    have hb : b < L.length := by omega
    have hd : L.drop b = L[b] :: L.drop (b + 1) := List.drop_eq_getElem_cons hb
    obtain ⟨o1, p1, p2, p3, p4, p5⟩ := out_of (rd0 (X := X) hn hb c tm σ hG hH h16 h17 hM)
    rw [Run_loop, hd, o1, thenC_normal]
    exact lp0 hn rem (b + 1) (by omega) _ _ _ p1 p2 p3 p4 p5
set_option maxHeartbeats 8000000 in
theorem rd1 {M : Int} {v w : AVal} {L : List Int} (hn : L.length ≤ 1000) {n k J a : Nat} {r : Hr} (ha : a < L.length) (hbad : bad L a r = false) (tm : List AVal) (σ : Store) (hG : G3 w L n tm) (hH : H3 k J a tm) (hM : M3 M v J r σ) :
    Ends (Run X (.code xf3l1) tm σ) .normal fun tm' σ' => G3 w L n tm' ∧ H3 k J (a + 1) tm' ∧ M3 M v J r σ' := by
  obtain ⟨hl, h2, h3, h9, h10⟩ := id hG
  obtain ⟨h13, h14, h15⟩ := id hH
  have hw : IntKind.i64.wrap ((a : Int) + 1) = ((a + 1 : Nat) : Int) := by rw [wrap_i64] <;> omega
  have hlm := ints_len L
  have gm : ∀ (hq : a < (ints L).length), (ints L)[a] = .int .i64 L[a] := fun hq => by simp [ints]
  have ha' : a < (ints L).length := by rw [ints_len]; exact ha
  have hL := fun tm σ h1 h2 h3 h4 h5 => out_of (lp0 (X := X) (M := M) (v := v) (w := w) hn (n := n) (k := k) (J := J) (a := a) (r := r) L.length 0 (by omega) false tm σ h1 h2 h3 h4 h5)
  simp only [List.drop_zero, thr_oth] at hL
  obtain ⟨q1, q2, q3, q4, q5⟩ := hL (putT (putT (putT (putT (putT (putT tm (some 117) (.int .i64 a)) (some 118) (.list 1 (ints L) none)) (some 119) (.int .i64 L.length)) (some 120) (.bool true)) (some 16) (.bool false)) (some 17) (.int .i64 0)) σ (by unfold G3; simp [hl, h2, h3, h9, h10]) (by unfold H3; simp [hl, h13, h14, h15]) (by simp [hl]) (by simp [hl]) hM
  generalize hT : outT X (.loop xf3l0) _ σ = tm3 at *
  generalize hS : outS X (.loop xf3l0) _ σ = σ3 at *
  obtain ⟨ql, k2, k3, k9, k10⟩ := q2
  obtain ⟨k13, k14, k15⟩ := q3
  obtain ⟨g0, g1, N, hN⟩ := q5
  have hd : L.getD a 0 = L[a] := by simp [ha]
  unfold bad at hbad
  rw [hd] at hbad
  unfold G3 H3 M3
  generalize ints L = B at *
  by_cases c1 : L[a] = r.s
  · cases c2 : oth a r.o L 0 with
    | false =>
      have c3 : ¬ r.k = 1 := by intro e; simp [c1, c2, e] at hbad
      rw [c2] at q4
      by_cases c4 : r.k = 0
      · simp [xf3l1, hl, h2, h3, h9, h10, h13, h14, h15, ha, ha', hlm, gm, hw, q1, ql, k2, k3, k9, k10, k13, k14, k15, q4, g0, g1, hN, c1, c3, c4, xload, xlen, AVal.cells, put_next, new_next, Store.get_new, Store.get_put, put_get, setR, only_get, merge_get', only_next, merge_next, upTo_self, upTo_one, merge_only, touch, wrote, isIn, okRec, hits, capsOf, xcaps, stripL, AVal.strip, freeL, AVal.free, fillR, chunks, mkV]
      · simp [xf3l1, hl, h2, h3, h9, h10, h13, h14, h15, ha, ha', hlm, gm, hw, q1, ql, k2, k3, k9, k10, k13, k14, k15, q4, g0, g1, hN, c1, c3, c4, xload, xlen, AVal.cells, put_next, new_next, Store.get_new, Store.get_put, put_get, setR, only_get, merge_get', only_next, merge_next, upTo_self, upTo_one, merge_only, touch, wrote, isIn, okRec, hits, capsOf, xcaps, stripL, AVal.strip, freeL, AVal.free, fillR, chunks, mkV]
    | true =>
      have c3 : ¬ r.k = 0 := by intro e; simp [c1, c2, e] at hbad
      rw [c2] at q4
      by_cases c4 : r.k = 1
      · simp [xf3l1, hl, h2, h3, h9, h10, h13, h14, h15, ha, ha', hlm, gm, hw, q1, ql, k2, k3, k9, k10, k13, k14, k15, q4, g0, g1, hN, c1, c3, c4, xload, xlen, AVal.cells, put_next, new_next, Store.get_new, Store.get_put, put_get, setR, only_get, merge_get', only_next, merge_next, upTo_self, upTo_one, merge_only, touch, wrote, isIn, okRec, hits, capsOf, xcaps, stripL, AVal.strip, freeL, AVal.free, fillR, chunks, mkV]
      · simp [xf3l1, hl, h2, h3, h9, h10, h13, h14, h15, ha, ha', hlm, gm, hw, q1, ql, k2, k3, k9, k10, k13, k14, k15, q4, g0, g1, hN, c1, c3, c4, xload, xlen, AVal.cells, put_next, new_next, Store.get_new, Store.get_put, put_get, setR, only_get, merge_get', only_next, merge_next, upTo_self, upTo_one, merge_only, touch, wrote, isIn, okRec, hits, capsOf, xcaps, stripL, AVal.strip, freeL, AVal.free, fillR, chunks, mkV]
  · simp [xf3l1, hl, h2, h3, h9, h10, h13, h14, h15, ha, ha', hlm, gm, hw, q1, ql, k2, k3, k9, k10, k13, k14, k15, q4, g0, g1, hN, c1, xload, xlen, AVal.cells, put_next, new_next, Store.get_new, Store.get_put, put_get, setR, only_get, merge_get', only_next, merge_next, upTo_self, upTo_one, merge_only, touch, wrote, isIn, okRec, hits, capsOf, xcaps, stripL, AVal.strip, freeL, AVal.free, fillR, chunks, mkV]
end
end Go.Proofs.Ytjbegiaceekgcab.Eng

/-
  SEQUENCE: halls: a machine enters a step.
-/
namespace Go.Proofs.Ytjbegiaceekgcab.Eng
set_option linter.unusedSimpArgs false
set_option linter.unusedVariables false
def enterE (M : Int) (R : List Hr) (L : List Int) (m s : Int) : Int := firstNZ [stepsE M R L, if win m 0 ((L.length : Int) - 1) then 0 else 6, chs s]
def enterV (M : Int) (R : List Hr) (L : List Int) (m s : Int) : AVal := if enterE M R L m s = 0 then (match bkn R (L.set m.toNat s) L.length 0 with
  | none => .tup [.int .i64 0, .int .i64 0]
  | some (_, k) => .tup [.int .i64 (k : Nat), .int .i64 24]) else .tup [.int .i64 0, .int .i64 (enterE M R L m s)]
theorem enterV_flat (M : Int) (R : List Hr) (L : List Int) (m s : Int) : (enterV M R L m s).strip.free = true ∧ (enterV M R L m s).strip = enterV M R L m s := by
  unfold enterV
  split
  · cases bkn R (L.set m.toNat s) L.length 0 with
    | none => exact ⟨rfl, rfl⟩
    | some ab => exact ⟨rfl, rfl⟩
  · exact ⟨rfl, rfl⟩
theorem ints_set (L : List Int) (i : Nat) (x : Int) : (ints L).set i (.int .i64 x) = ints (L.set i x) := by simp [ints, List.map_set]
theorem movf_ints {n : Nat} {L : List Int} {σ : Store} {k : Nat} (hk : k = L.length) (h : σ.get n = some (.cells (ints L))) : xmovf σ (.mlist 1 n 0 k) = some (.list 1 (ints L) none, σ.put n (.ro (ints L))) := by
  subst hk
  have : chunks false 1 L.length (ints L) = some (ints L) := chunks_ints L
  simp [xmovf, h, ints_len, ints_fr, this]
section
variable {X : FuncId → Option XFunc} (hX : SrLCode X)
include hX
set_option maxHeartbeats 8000000 in
theorem w12 {M : Int} {R : List Hr} {v s : AVal} (hv : HrsV R v) (hn : R.length ≤ 1000000000) {L : List Int} (h : IntV L s) (hnl : L.length ≤ 1000000000) (m t : Int) (σ : Store) : Run X (.call 12) [.agg [.int .i64 M, v], s, .agg [.int .i64 m, .int .i64 t]] σ = some (.ret, [enterV M R L m t], σ) := by
  obtain ⟨e2, e1⟩ := enterV_flat M R L m t
  suffices hg : ∀ tm, tm.length = xf12.ntmps → XOpd.eval tm (.t 0) = (AVal.agg [.int .i64 M, v]).strip → XOpd.eval tm (.t 1) = s.strip → XOpd.eval tm (.t 2) = (AVal.agg [.int .i64 m, .int .i64 t]).strip → Gives X xf12 tm (enterV M R L m t) by
    have key := call3 (X := X) (a := .agg [.int .i64 M, v]) (b := s) (c := .agg [.int .i64 m, .int .i64 t]) (v := enterV M R L m t) hX.h12 (by simp [AVal.strip, stripL, AVal.free, freeL, hv.free.1, hv.free.2]) (by rw [h.free.2]; exact h.free.1) rfl (by decide) hg e2 σ
    rwa [e1] at key
  intro tm hl h0 h1 h2
  simp only [AVal.strip, stripL, hv.free.2] at h0 h2
  rw [h.free.2] at h1
  replace hl : tm.length = 47 := hl
  have f1 := hv.free.1
  have f2 := hv.free.2
  have g1 := h.free.1
  have g2 := h.free.2
  obtain ⟨hln, hdn⟩ := h.len
  have u1 := w32 hX (M := M) hv h hn hnl
  have hw : IntKind.i64.wrap ((L.length : Int) - 1) = (L.length : Int) - 1 := by rw [wrap_i64] <;> omega
  have u2 := w36 hX (a := m) hw
  have u3 := w37 hX
  have u4 := first3 hX
  have u5 := w34 hX
  unfold enterV
  have hE : firstNZ [stepsE M R L, if win m 0 ((L.length : Int) - 1) then 0 else 6, chs t] = enterE M R L m t := rfl
  by_cases he : enterE M R L m t = 0
  · rw [he] at hE
    simp only [he, if_true]
    have hm : win m 0 ((L.length : Int) - 1) = true := by
      cases c : win m 0 ((L.length : Int) - 1) with
      | true => rfl
      | false =>
        rw [c] at hE
        unfold firstNZ at hE
        by_cases c1 : stepsE M R L = 0
        · simp [c1, firstNZ] at hE
        · simp [c1] at hE
    rw [win_iff] at hm
    obtain ⟨i, rfl⟩ : ∃ i : Nat, m = i := ⟨m.toNat, by omega⟩
    have hi : i < L.length := by omega
    have hne : L ≠ [] := by intro e; simp [e] at hi
    have hs := h.ne hne
    have eP : Ends (Run X (.code (.seq xf12.body.fst xf12.body.snd.fst)) tm Store.empty) .normal fun tm' σ' => tm'.length = 47 ∧ XOpd.eval tm' (.t 1) = s ∧ XOpd.eval tm' (.t 3) = .ptr 0 0 ∧ XOpd.eval tm' (.t 5) = .ptr 1 0 ∧ σ'.next = 3 ∧ σ'.get 0 = some (.cells [.int .i64 M, v]) ∧ σ'.get 1 = some (.cells [.int .i64 (i : Int), .int .i64 t]) := by
      simp [xf12, XCode.fst, XCode.snd, hl, h0, h1, h2, f1, f2, g1, g2, hln, hdn, hw, u1, u2, u3, u4, hE, xload, AVal.cells, Store.empty, Store.new, Store.put, Store.get, look, putL, setR, Store.only, Store.merge, touch, wrote, upTo, isIn, okRec, hits, capsOf, xcaps, stripL, AVal.strip, freeL, AVal.free, fillR, chunks, mkV, List.filter]
    obtain ⟨o1, p1, p2, p3, p4, p5, p6, p7⟩ := out_of eP
    rw [hs] at p2
    obtain ⟨n, τ, k1, k2, k3, k4, k5⟩ := clone38 hX hne hnl (outS X (.seq xf12.body.fst xf12.body.snd.fst) tm Store.empty)
    have c0 : τ.get 0 = some (.cells [.int .i64 M, v]) := by rw [k5 0 (by rw [p5]; omega)]; exact p6
    have c1 : τ.get 1 = some (.cells [.int .i64 (i : Int), .int .i64 t]) := by rw [k5 1 (by rw [p5]; omega)]; exact p7
    rw [p5] at k2
    have hi' : i < (ints L).length := by rw [ints_len]; exact hi
    have hi2 : i + 1 ≤ (ints L).length := hi'
    have hset : (ints L).set i (.int .i64 t) = ints (L.set i t) := ints_set L i t
    have hlen : (L.set i t).length = L.length := List.length_set
    have hB : IntV (L.set i t) (.list 1 (ints (L.set i t)) none) := .inl rfl
    have u6 := w33 hX (M := M) hv hn hB (by rw [hlen]; exact hnl)
    rw [hlen] at u6
    have fr := ints_fr (L.set i t)
    have fs := freeL_strip fr
    have mvf : ∀ σ : Store, σ.get n = some (.cells (ints (L.set i t))) → xmovf σ (.mlist 1 n 0 L.length) = some (.list 1 (ints (L.set i t)) none, σ.put n (.ro (ints (L.set i t)))) := fun σ h => movf_ints hlen.symm h
    obtain ⟨n', rfl⟩ : ∃ n', n = n' + 3 := ⟨n - 3, by omega⟩
    obtain ⟨N, hN⟩ : ∃ N, τ.next = n' + N + 4 := ⟨τ.next - n' - 4, by omega⟩
    unfold Gives
    rw [show xf12.body = .seq xf12.body.fst (.seq xf12.body.snd.fst xf12.body.snd.snd) from rfl, seq_left, Run_seq, o1, thenC_normal]
    generalize outT X (.seq xf12.body.fst xf12.body.snd.fst) tm Store.empty = tm1 at *
    generalize outS X (.seq xf12.body.fst xf12.body.snd.fst) tm Store.empty = σ1 at *
    rw [show ((i : Int)).toNat = i from rfl] at *
    cases hb : bkn R (L.set i t) L.length 0 with
    | none =>
      rw [hb] at u6
      simp [xf12, XCode.fst, XCode.snd, p1, p2, p3, p4, k1, k4, c0, c1, hi, hi', hi2, hset, hN, mvf, fr, fs, f1, f2, u6, bkV, u5, xload, AVal.cells, AVal.one, xresult, xrets, xret_t, put_next, new_next, Store.get_new, Store.get_put, put_get, setR, only_get, merge_get', only_next, merge_next, upTo_self, upTo_one, merge_only, touch, wrote, isIn, okRec, hits, capsOf, xcaps, stripL, AVal.strip, freeL, AVal.free, fillR, chunks, mkV]
    | some ab =>
      obtain ⟨a, b⟩ := ab
      rw [hb] at u6
      simp [xf12, XCode.fst, XCode.snd, p1, p2, p3, p4, k1, k4, c0, c1, hi, hi', hi2, hset, hN, mvf, fr, fs, f1, f2, u6, bkV, u5, xload, AVal.cells, AVal.one, xresult, xrets, xret_t, put_next, new_next, Store.get_new, Store.get_put, put_get, setR, only_get, merge_get', only_next, merge_next, upTo_self, upTo_one, merge_only, touch, wrote, isIn, okRec, hits, capsOf, xcaps, stripL, AVal.strip, freeL, AVal.free, fillR, chunks, mkV]
  · simp only [he, if_false]
    unfold Gives
    simp [xf12, hl, h0, h1, h2, f1, f2, g1, g2, hln, hdn, hw, u1, u2, u3, u4, hE, he, xload, AVal.cells, xresult, xrets, xret_t, Store.empty, Store.new, Store.put, Store.get, look, putL, setR, Store.only, Store.merge, touch, wrote, upTo, isIn, okRec, hits, capsOf, xcaps, stripL, AVal.strip, freeL, AVal.free, fillR, chunks, mkV, List.filter]
end
end Go.Proofs.Ytjbegiaceekgcab.Eng

/-
  SEQUENCE: interlocked: rules, one by one.
-/
namespace Go.Proofs.Ytjbegiaceekgcab.Eng
set_option linter.unusedSimpArgs false
set_option linter.unusedVariables false
def XCode.blk : XCode → XCode
  | .block _ c => c
  | c => c
def M2 (M : Int) (v : AVal) (σ : Store) : Prop := σ.get 0 = some (.cells [.int .i64 M, v]) ∧ ∃ N, σ.next = N + 2
section
variable {X : FuncId → Option XFunc}
theorem lp1 {M : Int} {v w : AVal} {L : List Int} (hn : L.length ≤ 1000) {n k J : Nat} {r : Hr} (hbad : ∀ a, a < L.length → bad L a r = false) : ∀ (rem a : Nat), a + rem = L.length → ∀ (tm : List AVal) (σ : Store), G3 w L n tm → H3 k J a tm → M3 M v J r σ →
    Ends (Run X (.code (.loop xf3l1)) tm σ) (.exit 4) fun tm' σ' => G3 w L n tm' ∧ XOpd.eval tm' (.t 13) = .int .i64 (k : Int) ∧ M2 M v σ'
  | 0, a, hk, tm, σ, hG, hH, hM => by
    have hi : a = L.length := by omega
    subst hi
    obtain ⟨hl, h2, h3, h9, h10⟩ := hG
    obtain ⟨h13, h14, h15⟩ := hH
    obtain ⟨g0, g1, N, hN⟩ := hM
    have hlm := ints_len L
    have hN' : ∃ N', J + N + 3 = N' + 2 := ⟨J + N + 1, by omega⟩
    rw [Run_loop]
    unfold G3 M2
    simp [xf3l1, hl, h2, h3, h9, h10, h13, h14, h15, hlm, xlen, g0, hN, hN']
  | rem + 1, a, hk, tm, σ, hG, hH, hM => by
    have ha : a < L.length := by omega
    obtain ⟨o1, p1, p2, p3⟩ := out_of (rd1 (X := X) hn ha (hbad a ha) tm σ hG hH hM)
    rw [Run_loop, o1, thenC_normal]
    exact lp1 hn hbad rem (a + 1) (by omega) _ _ p1 p2 p3
set_option maxHeartbeats 8000000 in
theorem rd2 {M : Int} {R : List Hr} {v w : AVal} (hv : HrsV R v) {L : List Int} (hn : L.length ≤ 1000) (hR : R.length ≤ 1000) {n k : Nat} (hk : k < R.length) (hbad : ∀ a, a < L.length → bad L a R[k] = false) (tm : List AVal) (σ : Store) (hG : G3 w L n tm) (h13 : XOpd.eval tm (.t 13) = .int .i64 (k : Int)) (hM : M2 M v σ) :
    Ends (Run X (.code xf3l2) tm σ) .normal fun tm' σ' => G3 w L n tm' ∧ XOpd.eval tm' (.t 13) = .int .i64 ((k + 1 : Nat) : Int) ∧ M2 M v σ' := by
  have hw : IntKind.i64.wrap ((k : Int) + 1) = ((k + 1 : Nat) : Int) := by rw [wrap_i64] <;> omega
  obtain ⟨kln, kdn⟩ := hv.len
  have hvv : v = .list 3 (hrs R) none := hv.ne (by intro e; simp [e] at hk)
  have gi : ∀ (hq : k < (hrs R).length), (hrs R)[k] = .agg [.int .i64 R[k].s, .int .i64 R[k].o, .int .i64 R[k].k] := fun hq => by simp [hrs, Hr.enc]
  have hk' : k < (hrs R).length := by rw [hrs_len]; exact hk
  have hln := hrs_len R
  have hc : (xf3l2 : XCode) = .seq xf3l2.fst (.seq (.block 3 (.seq xf3l2.snd.fst.blk.fst (.seq xf3l2.snd.fst.blk.snd.fst (.block 4 (.loop xf3l1))))) xf3l2.snd.snd) := rfl
  have eH : Ends (Run X (.code xf3l2.fst) tm σ) .normal fun tm' σ' => G3 w L n tm' ∧ XOpd.eval tm' (.t 13) = .int .i64 (k : Int) ∧ σ' = σ := by
    obtain ⟨hl, h2, h3, h9, h10⟩ := hG
    obtain ⟨g0, N, hN⟩ := hM
    unfold G3
    simp [xf3l2, XCode.fst, hl, h2, h3, h9, h10, h13, g0, kln, kdn, hk, xload]
  obtain ⟨o1, p1, p2, p3⟩ := out_of eH
  rw [hc, Run_seq, o1, thenC_normal, p3]
  generalize outT X xf3l2.fst tm σ = tm1 at *
  obtain ⟨N, hN⟩ := hM.2
  have eA : Ends (Run X (.code (.seq xf3l2.snd.fst.blk.fst xf3l2.snd.fst.blk.snd.fst)) tm1 σ) .normal fun tm' σ' => G3 w L n tm' ∧ H3 k N 0 tm' ∧ M3 M v N R[k] σ' := by
    obtain ⟨hl, h2, h3, h9, h10⟩ := p1
    have g0 := hM.1
    rw [hvv] at g0 ⊢
    unfold G3 H3 M3
    generalize hrs R = A at *
    have hx : ∃ N', N + 3 = N + N' + 3 := ⟨0, by omega⟩
    simp [xf3l2, XCode.fst, XCode.snd, XCode.blk, hl, h2, h3, h9, h10, p2, g0, hN, hk, hk', hln, gi, hx, xload, xlen, AVal.cells, put_next, new_next, Store.get_new, Store.get_put, put_get, setR, only_get, merge_get', only_next, merge_next, upTo_self, upTo_one, merge_only, touch, wrote, isIn, okRec, hits, capsOf, xcaps, stripL, AVal.strip, freeL, AVal.free, fillR, chunks, mkV]
  obtain ⟨o2, r1, r2, r3⟩ := out_of eA
  obtain ⟨o3, s1, s2, s3⟩ := out_of (lp1 (X := X) hn hbad L.length 0 (by omega) _ _ r1 r2 r3)
  rw [Run_seq, Run_block, seq_left, Run_seq, o2, thenC_normal, Run_block, o3, blockC_exit, blockC_normal, thenC_normal]
  generalize outT X (.loop xf3l1) _ _ = tm3 at *
  generalize outS X (.loop xf3l1) _ _ = σ3 at *
  obtain ⟨hl, h2, h3, h9, h10⟩ := s1
  unfold G3
  simp [xf3l2, XCode.fst, XCode.snd, hl, h2, h3, h9, h10, s2, s3, hw]
theorem lp2 {M : Int} {R : List Hr} {v w : AVal} (hv : HrsV R v) {L : List Int} (hn : L.length ≤ 1000) (hR : R.length ≤ 1000) {n : Nat} (hbad : ∀ r, r ∈ R → ∀ a, a < L.length → bad L a r = false) : ∀ (rem k : Nat), k + rem = R.length → ∀ (tm : List AVal) (σ : Store), G3 w L n tm → XOpd.eval tm (.t 13) = .int .i64 (k : Int) → M2 M v σ →
    Ends (Run X (.code (.loop xf3l2)) tm σ) (.exit 2) fun tm' σ' => G3 w L n tm' ∧ M2 M v σ'
  | 0, k, hk, tm, σ, hG, h13, hM => by
    have hi : k = R.length := by omega
    subst hi
    obtain ⟨hl, h2, h3, h9, h10⟩ := hG
    have g0 := hM.1
    obtain ⟨kln, kdn⟩ := hv.len
    rw [Run_loop]
    unfold G3
    simp [xf3l2, hl, h2, h3, h9, h10, h13, kln, kdn, g0, xload, hM]
  | rem + 1, k, hk, tm, σ, hG, h13, hM => by
    have hk' : k < R.length := by omega
    obtain ⟨o1, p1, p2, p3⟩ := out_of (rd2 (X := X) hv hn hR hk' (hbad R[k] (by simp)) tm σ hG h13 hM)
    rw [Run_loop, o1, thenC_normal]
    exact lp2 hv hn hR hbad rem (k + 1) (by omega) _ _ p1 p2 p3
end
end Go.Proofs.Ytjbegiaceekgcab.Eng

/-
  SEQUENCE: interlocked: entries, one by one.
-/
namespace Go.Proofs.Ytjbegiaceekgcab.Eng
set_option linter.unusedSimpArgs false
set_option linter.unusedVariables false
theorem enterE_six {M : Int} {R : List Hr} {L : List Int} {m t : Int} (h : stepsE M R L = 0) (h0 : enterE M R L m t ≠ 0) : enterE M R L m t = 6 := by
  unfold enterE chs at *
  cases c1 : win m 0 ((L.length : Int) - 1) <;> cases c2 : win t 0 9 <;> simp [firstNZ, h, c1, c2] at h0 ⊢
theorem enterE_ok {M : Int} {R : List Hr} {L : List Int} {m t : Int} (h : stepsE M R L = 0) (h0 : enterE M R L m t = 0) : win m 0 ((L.length : Int) - 1) = true ∧ win t 0 9 = true ∧ chs t = 0 := by
  unfold enterE chs at h0
  unfold chs
  cases c1 : win m 0 ((L.length : Int) - 1) <;> cases c2 : win t 0 9 <;> simp [firstNZ, h, c1, c2] at h0 ⊢
theorem bad_none {R : List Hr} {L : List Int} (h : bkn R L L.length 0 = none) : ∀ r, r ∈ R → ∀ a, a < L.length → bad L a r = false := fun r hr a ha => bad_of (bkn_none h a (Nat.zero_le _) (by omega) r hr)
section
variable {X : FuncId → Option XFunc} (hX : SrLCode X)
include hX
theorem w7 {M : Int} {R : List Hr} {v : AVal} (hv : HrsV R v) (hn : R.length ≤ 1000000000) (σ : Store) : Run X (.call 7) [.agg [.int .i64 M, v]] σ = some (.ret, [.int .i64 (hallE M R).2], σ) := by
  refine call1 (a := .agg [.int .i64 M, v]) (v := .int .i64 (hallE M R).2) hX.h7 (by simp [AVal.strip, stripL, AVal.free, freeL, hv.free.1, hv.free.2]) (by decide) (fun tm hl h0 => ?_) rfl σ
  simp only [AVal.strip, stripL, hv.free.2] at h0
  replace hl : tm.length = 11 := hl
  have u := w30 hX (M := M) hv hn
  unfold Gives
  simp [xf7, hl, h0, u, hv.free.1, hv.free.2, xload, AVal.cells, Store.empty, Store.new, Store.put, Store.get, look, putL, setR, Store.only, Store.merge, touch, wrote, upTo, isIn, okRec, hits, capsOf, xcaps, stripL, AVal.strip, freeL, AVal.free, fillR, chunks, mkV, List.filter]
/-- What an entry does. -/
def After (M : Int) (R : List Hr) (L L' : List Int) : Prop := stepsE M R L' = 0 ∧ bkn R L' L'.length 0 = none ∧ L'.length = L.length
set_option maxHeartbeats 8000000 in
theorem rd3 (en : ∀ (L : List Int) (i : Nat) (t : Int), i < L.length → L.length ≤ 1000 → ∀ σ, Run X (.call 14) [.list 1 (ints L) none, .agg [.int .i64 (i : Int), .int .i64 t]] σ = some (.ret, [.list 1 (ints (L.set i t)) none], σ))
    {M : Int} {R : List Hr} {v : AVal} (hv : HrsV R v) (hR : R.length ≤ 1000) {l : List (Int × Int)} (hl12 : l.length ≤ 1000) {L : List Int} (hn : L.length ≤ 1000) (hs : stepsE M R L = 0) (hb : bkn R L L.length 0 = none) {n : Nat} (hi : n < l.length) (tm : List AVal) (σ : Store) (hG : G3 (.list 2 (ents l) none) L n tm) (hM : M2 M v σ) :
    ∃ L', After M R L L' ∧ Ends (Run X (.code xf3l3) tm σ) .normal fun tm' σ' => G3 (.list 2 (ents l) none) L' (n + 1) tm' ∧ M2 M v σ' := by
  have hw : IntKind.i64.wrap ((n : Int) + 1) = ((n + 1 : Nat) : Int) := by rw [wrap_i64] <;> omega
  have hwl : IntKind.i64.wrap ((L.length : Int) - 1) = (L.length : Int) - 1 := by rw [wrap_i64] <;> omega
  have hc : (xf3l3 : XCode) = .seq xf3l3.fst (.seq (.block 1 (.seq xf3l3.snd.fst.blk.fst (.seq xf3l3.snd.fst.blk.snd.fst (.seq xf3l3.snd.fst.blk.snd.snd.fst (.block 2 (.loop xf3l2)))))) xf3l3.snd.snd) := rfl
  have hlm := ints_len L
  have hlen := ents_len l
  have gi : ∀ (hq : n < (ents l).length), (ents l)[n] = .agg [.int .i64 l[n].1, .int .i64 l[n].2] := fun hq => by simp [ents, ent]
  have hi' : n < (ents l).length := by rw [hlen]; exact hi
  have hii : (n : Int) < l.length := by omega
  have fr := ints_fr L
  have fs := freeL_strip fr
  have f1 := hv.free.1
  have f2 := hv.free.2
  have hrf := hrs_fr R
  have hrs' := freeL_strip hrf
  have hv' : HrsV R (.list 3 (hrs R) none) := .inl rfl
  have hs' : IntV L (.list 1 (ints L) none) := .inl rfl
  have c10 := w10 hX (M := M) hv (by omega)
  have c11 := w11 hX hs' (by omega)
  have c12 := w12 hX (M := M) hv' (by omega) hs' (by omega) l[n].1 l[n].2
  have u13 := w13 hX
  -- the beginning of a round
  have eH : Ends (Run X (.code xf3l3.fst) tm σ) .normal fun tm' σ' => G3 (.list 2 (ents l) none) L n tm' ∧ σ' = σ := by
    obtain ⟨hl, h2, h3, h9, h10⟩ := hG
    unfold G3
    simp [xf3l3, XCode.fst, hl, h2, h3, h9, h10, hlen, hii, hi, xlen]
  obtain ⟨o1, p1, p3⟩ := out_of eH
  have hcode : ∀ L' : List Int, L'.length ≤ 1000 → (∀ r, r ∈ R → ∀ a, a < L'.length → bad L' a r = false) → Ends (Run X (.code (.seq xf3l3.snd.fst.blk.fst xf3l3.snd.fst.blk.snd.fst)) (outT X xf3l3.fst tm σ) σ) .normal (fun tm' σ' => G3 (.list 2 (ents l) none) L' n tm' ∧ M2 M v σ') → Ends (Run X (.code xf3l3) tm σ) .normal fun tm' σ' => G3 (.list 2 (ents l) none) L' (n + 1) tm' ∧ M2 M v σ' := by
    intro L' hL' hbad eA
    obtain ⟨o2, r1, r2⟩ := out_of eA
    rw [hc, Run_seq, o1, thenC_normal, p3, Run_seq, Run_block, seq_left, Run_seq, o2, thenC_normal]
    generalize outT X (.seq xf3l3.snd.fst.blk.fst xf3l3.snd.fst.blk.snd.fst) _ _ = tm2 at *
    generalize outS X (.seq xf3l3.snd.fst.blk.fst xf3l3.snd.fst.blk.snd.fst) _ _ = σ2 at *
    have eB : Ends (Run X (.code xf3l3.snd.fst.blk.snd.snd.fst) tm2 σ2) .normal fun tm' σ' => G3 (.list 2 (ents l) none) L' n tm' ∧ XOpd.eval tm' (.t 13) = .int .i64 ((0 : Nat) : Int) ∧ M2 M v σ' := by
      obtain ⟨hl, h2, h3, h9, h10⟩ := r1
      unfold G3
      simp [xf3l3, XCode.fst, XCode.snd, XCode.blk, hl, h2, h3, h9, h10, r2]
    obtain ⟨o3, s1, s2, s3⟩ := out_of eB
    obtain ⟨o4, t1, t2⟩ := out_of (lp2 (X := X) hv hL' hR hbad R.length 0 (by omega) _ _ s1 s2 s3)
    rw [Run_seq, o3, thenC_normal, Run_block, o4, blockC_exit, blockC_normal, thenC_normal]
    generalize outT X (.loop xf3l2) _ _ = tm4 at *
    generalize outS X (.loop xf3l2) _ _ = σ4 at *
    obtain ⟨hl, h2, h3, h9, h10⟩ := t1
    unfold G3
    simp [xf3l3, XCode.fst, XCode.snd, hl, h2, h3, h9, h10, hw, t2]
  generalize outT X xf3l3.fst tm σ = tm1 at *
  obtain ⟨hl, h2, h3, h9, h10⟩ := p1
  obtain ⟨g0, N, hN⟩ := hM
  by_cases hE : enterE M R L l[n].1 l[n].2 = 0
  · obtain ⟨w1, w2, w3⟩ := enterE_ok hs hE
    have w1' := w1
    rw [win_iff] at w1'
    obtain ⟨i, hm⟩ : ∃ i : Nat, l[n].1 = i := ⟨l[n].1.toNat, by omega⟩
    have hil : i < L.length := by omega
    unfold enterV at c12
    simp only [hE, if_true] at c12
    rw [hm] at c12 w1
    rw [show ((i : Int)).toNat = i from rfl] at c12
    have hset : (L.set i l[n].2).length = L.length := List.length_set
    cases hbk : bkn R (L.set i l[n].2) L.length 0 with
    | none =>
      rw [hbk] at c12
      have c14 := en L i l[n].2 hil hn
      refine ⟨L.set i l[n].2, ⟨stepsE_set hs w3, by rw [hset]; exact hbk, hset⟩, hcode _ (by omega) (bad_none (by rw [hset]; exact hbk)) ?_⟩
      unfold G3 M2
      generalize ents l = E at *
      simp [xf3l3, XCode.fst, XCode.snd, XCode.blk, hl, h2, h3, h9, h10, hlm, hlen, hi, hi', hwl, gi, hm, w1, w2, fr, fs, f1, f2, hrf, hrs', c10, c11, c12, c14, u13, g0, hN, xload, xlen, AVal.cells, put_next, new_next, Store.get_new, Store.get_put, put_get, setR, only_get, merge_get', only_next, merge_next, upTo_self, upTo_one, merge_only, touch, wrote, isIn, okRec, hits, capsOf, xcaps, stripL, AVal.strip, freeL, AVal.free, fillR, chunks, mkV]
    | some ab =>
      obtain ⟨a, b⟩ := ab
      rw [hbk] at c12
      refine ⟨L, ⟨hs, hb, rfl⟩, hcode _ hn (bad_none hb) ?_⟩
      unfold G3 M2
      generalize ents l = E at *
      simp [xf3l3, XCode.fst, XCode.snd, XCode.blk, hl, h2, h3, h9, h10, hlm, hlen, hi, hi', hwl, gi, hm, w1, w2, fr, fs, f1, f2, hrf, hrs', c10, c11, c12, u13, g0, hN, xload, xlen, AVal.cells, put_next, new_next, Store.get_new, Store.get_put, put_get, setR, only_get, merge_get', only_next, merge_next, upTo_self, upTo_one, merge_only, touch, wrote, isIn, okRec, hits, capsOf, xcaps, stripL, AVal.strip, freeL, AVal.free, fillR, chunks, mkV]
  · have e6 := enterE_six hs hE
    unfold enterV at c12
    simp only [hE, if_false] at c12
    rw [e6] at c12
    refine ⟨L, ⟨hs, hb, rfl⟩, hcode _ hn (bad_none hb) ?_⟩
    unfold G3 M2
    generalize ents l = E at *
    simp [xf3l3, XCode.fst, XCode.snd, XCode.blk, hl, h2, h3, h9, h10, hlm, hlen, hi, hi', hwl, gi, fr, fs, f1, f2, hrf, hrs', c10, c11, c12, u13, g0, hN, xload, xlen, AVal.cells, put_next, new_next, Store.get_new, Store.get_put, put_get, setR, only_get, merge_get', only_next, merge_next, upTo_self, upTo_one, merge_only, touch, wrote, isIn, okRec, hits, capsOf, xcaps, stripL, AVal.strip, freeL, AVal.free, fillR, chunks, mkV]
end
end Go.Proofs.Ytjbegiaceekgcab.Eng

/-
  SEQUENCE: the law of interlocked halls.
-/
namespace Go.Proofs.Ytjbegiaceekgcab.Eng
set_option linter.unusedSimpArgs false
set_option linter.unusedVariables false
theorem stepsE_of {M : Int} {R : List Hr} {L : List Int} (h1 : (hallE M R).2 = 0) (h2 : sErr M L = 0) : stepsE M R L = 0 := by
  unfold stepsE
  unfold sErr at h2
  by_cases c2 : (L.length : Int) = M
  · simp only [c2, if_true] at h2
    simp [firstNZ, h1, c2, h2]
  · simp [c2] at h2
def Flt (v : AVal) : Prop := v.free = true ∧ v.strip = v
section
variable {X : FuncId → Option XFunc} (hX : SrLCode X)
include hX
theorem lp3 (en : ∀ (L : List Int) (i : Nat) (t : Int), i < L.length → L.length ≤ 1000 → ∀ σ, Run X (.call 14) [.list 1 (ints L) none, .agg [.int .i64 (i : Int), .int .i64 t]] σ = some (.ret, [.list 1 (ints (L.set i t)) none], σ))
    {M : Int} {R : List Hr} {v w : AVal} (hv : HrsV R v) (hR : R.length ≤ 1000) {l : List (Int × Int)} (hw : EntV l w) (hl12 : l.length ≤ 1000) : ∀ (rem n : Nat), n + rem = l.length → ∀ (L : List Int), L.length ≤ 1000 → stepsE M R L = 0 → bkn R L L.length 0 = none → ∀ (tm : List AVal) (σ : Store), G3 w L n tm → M2 M v σ →
    Ends (Run X (.code (.loop xf3l3)) tm σ) (.exit 0) fun tm' _ => tm'.length = 168
  | 0, n, hk, L, hn, hs, hb, tm, σ, hG, hM => by
    have hi : n = l.length := by omega
    subst hi
    obtain ⟨hl, h2, h3, h9, h10⟩ := hG
    obtain ⟨kln, kdn⟩ := hw.len
    rw [Run_loop]
    simp [xf3l3, hl, h2, h3, h9, h10, kln, kdn]
  | rem + 1, n, hk, L, hn, hs, hb, tm, σ, hG, hM => by
    have hi : n < l.length := by omega
    have hww : w = .list 2 (ents l) none := hw.ne (by intro e; simp [e] at hi)
    rw [hww] at hG
    obtain ⟨L', ⟨a1, a2, a3⟩, e⟩ := rd3 hX en hv hR hl12 hn hs hb hi tm σ hG hM
    obtain ⟨o1, p1, p2⟩ := out_of e
    rw [Run_loop, o1, thenC_normal]
    rw [← hww] at p1
    exact lp3 en hv hR hw hl12 rem (n + 1) (by omega) L' (by omega) a1 a2 _ _ p1 p2
set_option maxHeartbeats 8000000 in
theorem l3skip (aw : ∀ σ, Run X (.call 5) [] σ = some (.ret, [.bool true], σ)) {M e d k : Int} {v s w : AVal} (fv : Flt v) (fs : Flt s) (fw : Flt w) (hwl : xlen w = some (.int .i64 k) ∧ w.down = w) (few : Bool)
    (c6 : ∀ σ, Run X (.call 6) [.agg [.int .i64 M, v], s] σ = some (.ret, [.bool few], σ)) (c7 : few = true → ∀ σ, Run X (.call 7) [.agg [.int .i64 M, v]] σ = some (.ret, [.int .i64 e], σ)) (c8 : few = true → ∀ σ, Run X (.call 8) [.agg [.int .i64 M, v], s] σ = some (.ret, [.int .i64 d], σ))
    (hsk : few = false ∨ e ≠ 0 ∨ d ≠ 0 ∨ 12 < k) (σ : Store) : Run X (.call 3) [.agg [.int .i64 M, v], s, w] σ = some (.ret, [.bool true], σ) := by
  refine call3 (X := X) (a := .agg [.int .i64 M, v]) (b := s) (c := w) (v := .bool true) hX.h3 (by simp [AVal.strip, stripL, AVal.free, freeL, fv.1, fv.2]) (by rw [fs.2]; exact fs.1) (by rw [fw.2]; exact fw.1) (by decide) (fun tm hl h0 h1 h2 => ?_) rfl σ
  simp only [AVal.strip, stripL, fv.2] at h0
  rw [fs.2] at h1
  rw [fw.2] at h2
  replace hl : tm.length = 168 := hl
  obtain ⟨w1, w2⟩ := hwl
  unfold Gives
  cases few
  · simp [xf3, hl, h0, h1, h2, aw, c6, fv.1, fv.2, fs.1, fs.2, w1, w2, xload, AVal.cells, Store.empty, Store.new, Store.put, Store.get, look, putL, setR, Store.only, Store.merge, touch, wrote, upTo, isIn, okRec, hits, capsOf, xcaps, stripL, AVal.strip, freeL, AVal.free, fillR, chunks, mkV, List.filter]
  · have c7' := c7 rfl
    have c8' := c8 rfl
    by_cases e1 : e = 0
    · by_cases e2 : d = 0
      · have e3 : 12 < k := by rcases hsk with h | h | h | h <;> simp_all
        simp [xf3, hl, h0, h1, h2, aw, c6, c7', c8', e1, e2, e3, fv.1, fv.2, fs.1, fs.2, w1, w2, xload, AVal.cells, Store.empty, Store.new, Store.put, Store.get, look, putL, setR, Store.only, Store.merge, touch, wrote, upTo, isIn, okRec, hits, capsOf, xcaps, stripL, AVal.strip, freeL, AVal.free, fillR, chunks, mkV, List.filter]
      · simp [xf3, hl, h0, h1, h2, aw, c6, c7', c8', e1, e2, fv.1, fv.2, fs.1, fs.2, w1, w2, xload, AVal.cells, Store.empty, Store.new, Store.put, Store.get, look, putL, setR, Store.only, Store.merge, touch, wrote, upTo, isIn, okRec, hits, capsOf, xcaps, stripL, AVal.strip, freeL, AVal.free, fillR, chunks, mkV, List.filter]
    · simp [xf3, hl, h0, h1, h2, aw, c6, c7', c8', e1, fv.1, fv.2, fs.1, fs.2, w1, w2, xload, AVal.cells, Store.empty, Store.new, Store.put, Store.get, look, putL, setR, Store.only, Store.merge, touch, wrote, upTo, isIn, okRec, hits, capsOf, xcaps, stripL, AVal.strip, freeL, AVal.free, fillR, chunks, mkV, List.filter]
set_option maxHeartbeats 8000000 in
theorem u3 (aw : ∀ σ, Run X (.call 5) [] σ = some (.ret, [.bool true], σ)) (en : ∀ (L : List Int) (i : Nat) (t : Int), i < L.length → L.length ≤ 1000 → ∀ σ, Run X (.call 14) [.list 1 (ints L) none, .agg [.int .i64 (i : Int), .int .i64 t]] σ = some (.ret, [.list 1 (ints (L.set i t)) none], σ))
    {M : Int} {R : List Hr} {L : List Int} {l : List (Int × Int)} {v s w : AVal} (hv : HrsV R v) (hs : IntV L s) (hw : EntV l w) (σ : Store) : Run X (.call 3) [.agg [.int .i64 M, v], s, w] σ = some (.ret, [.bool true], σ) := by
  have c6 := w6 hX (M := M) hv hs
  have bounds : (decide (R.length ≤ 14) && decide (L.length ≤ 8)) = true → R.length ≤ 14 ∧ L.length ≤ 8 := fun h => by simpa using h
  by_cases hsk : (decide (R.length ≤ 14) && decide (L.length ≤ 8)) = false ∨ (hallE M R).2 ≠ 0 ∨ sErr M L ≠ 0 ∨ 12 < (l.length : Int)
  · exact l3skip hX aw hv.free hs.free hw.free hw.len _ c6 (fun h => w7 hX hv (by have := bounds h; omega)) (fun h => w8 hX hv hs (by have := bounds h; omega)) hsk σ
  · have few : (decide (R.length ≤ 14) && decide (L.length ≤ 8)) = true := by
      cases c : decide (R.length ≤ 14) && decide (L.length ≤ 8) with
      | true => rfl
      | false => exact absurd (.inl c) hsk
    obtain ⟨fR, fL⟩ := bounds few
    have e0 : (hallE M R).2 = 0 := Decidable.byContradiction fun h => hsk (.inr (.inl h))
    have d0 : sErr M L = 0 := Decidable.byContradiction fun h => hsk (.inr (.inr (.inl h)))
    have k0 : ¬ 12 < (l.length : Int) := fun h => hsk (.inr (.inr (.inr h)))
    have hS := stepsE_of e0 d0
    rw [few] at c6
    have c7 := w7 hX (M := M) hv (by omega)
    have c8 := w8 hX (M := M) hv hs (by omega)
    rw [e0] at c7
    rw [d0] at c8
    have hv' : HrsV R (.list 3 (hrs R) none) := .inl rfl
    have hs' : IntV L (.list 1 (ints L) none) := .inl rfl
    have c10 := w10 hX (M := M) hv (by omega)
    have c11 := w11 hX hs (by omega)
    have c9 := w9 hX (M := M) hv' (by omega) hs' (by omega)
    unfold brokenE at c9
    simp only [hS, if_true] at c9
    refine call3 (X := X) (a := .agg [.int .i64 M, v]) (b := s) (c := w) (v := .bool true) hX.h3 (by simp [AVal.strip, stripL, AVal.free, freeL, hv.free.1, hv.free.2]) (by rw [hs.free.2]; exact hs.free.1) (by rw [hw.free.2]; exact hw.free.1) (by decide) (fun tm hl h0 h1 h2 => ?_) rfl σ
    simp only [AVal.strip, stripL, hv.free.2] at h0
    rw [hs.free.2] at h1
    rw [hw.free.2] at h2
    replace hl : tm.length = 168 := hl
    obtain ⟨w1, w2⟩ := hw.len
    have f1 := hv.free.1
    have f2 := hv.free.2
    have g1 := hs.free.1
    have g2 := hs.free.2
    have fr := ints_fr L
    have fs := freeL_strip fr
    have hrf := hrs_fr R
    have hrs' := freeL_strip hrf
    unfold Gives
    cases hb : bkn R L L.length 0 with
    | some ab =>
      obtain ⟨a, b⟩ := ab
      rw [hb] at c9
      simp [xf3, hl, h0, h1, h2, aw, c6, c7, c8, c9, c10, c11, k0, f1, f2, g1, g2, fr, fs, hrf, hrs', w1, w2, xload, AVal.cells, Store.empty, Store.new, Store.put, Store.get, look, putL, setR, Store.only, Store.merge, touch, wrote, upTo, isIn, okRec, hits, capsOf, xcaps, stripL, AVal.strip, freeL, AVal.free, fillR, chunks, mkV, List.filter]
    | none =>
      rw [hb] at c9
      have eP : Ends (Run X (.code (XCode.cutP 5 xf3.body)) tm Store.empty) .normal fun tm' σ' => G3 w L 0 tm' ∧ M2 M v σ' := by
        unfold G3 M2
        simp [xf3, XCode.cutP, hl, h0, h1, h2, aw, c6, c7, c8, c9, c10, c11, k0, f1, f2, g1, g2, fr, fs, hrf, hrs', w1, w2, xload, AVal.cells, Store.empty, Store.new, Store.put, Store.get, look, putL, setR, Store.only, Store.merge, touch, wrote, upTo, isIn, okRec, hits, capsOf, xcaps, stripL, AVal.strip, freeL, AVal.free, fillR, chunks, mkV, List.filter]
      obtain ⟨o1, p1, p2⟩ := out_of eP
      obtain ⟨o2, q1⟩ := out_of (lp3 hX en hv (by omega) hw (by omega) l.length 0 (by omega) L (by omega) hS hb _ _ p1 p2)
      rw [Run_cut 5, o1, thenC_normal, show XCode.cutB 5 xf3.body = .block 0 (.loop xf3l3) from rfl, Run_block, o2, blockC_exit]
      generalize outT X (.loop xf3l3) _ _ = tm3 at *
      generalize outS X (.loop xf3l3) _ _ = σ3 at *
      simp [xf3, XCode.cutR, q1]
end
end Go.Proofs.Ytjbegiaceekgcab.Eng

/-
  SrLFacts: the compiled code is what it is.
-/
namespace Go.Proofs.Ytjbegiaceekgcab.Eng
open Go.Proofs
theorem srL_code : SrLCode (xprogG Try.prog [2000095, 107, 2000069, 2000038, 4000003, 1000033] [(14, 2, gEnt)]) where
  h3 := by kernel_rfl
  h6 := by kernel_rfl
  h7 := by kernel_rfl
  h8 := by kernel_rfl
  h9 := by kernel_rfl
  h10 := by kernel_rfl
  h11 := by kernel_rfl
  h12 := by kernel_rfl
  h13 := by kernel_rfl
  h30 := by kernel_rfl
  h31 := by kernel_rfl
  h32 := by kernel_rfl
  h33 := by kernel_rfl
  h34 := by kernel_rfl
  h35 := by kernel_rfl
  h36 := by kernel_rfl
  h37 := by kernel_rfl
  h38 := by kernel_rfl
  h55 := by kernel_rfl
  h56 := by kernel_rfl
  h57 := by kernel_rfl
  h58 := by kernel_rfl
  h59 := by kernel_rfl
  h60 := by kernel_rfl
  h80 := by kernel_rfl
  h81 := by kernel_rfl
  h82 := by kernel_rfl
  h83 := by kernel_rfl
  h84 := by kernel_rfl
  h85 := by kernel_rfl
end Go.Proofs.Ytjbegiaceekgcab.Eng

/-
  What is given is what the program does.
-/
namespace Go.Proofs.Ytjbegiaceekgcab
open Go.ChangeShapes Go.WideShapes Go.ChangeAt Go.RowKit Go.Proofs.Ytjbegiaceekgcab.Eng
set_option linter.unusedSimpArgs false
set_option linter.unusedVariables false
theorem ent_code : SrECode (xprog Try.prog [2000095, 107, 2000069, 2000038, 4000003, 2000011]) where
  h14 := by kernel_rfl
  h11 := by kernel_rfl
theorem ent_pure : ∀ args v, gEnt (args ++ List.replicate (2 - args.length) aundef) = some v → v.free = true ∧ v.strip = v ∧ PureOk Try.prog 14 args v
  | [], v, h => by simp [gEnt, aundef] at h
  | [a], v, h => by simp [gEnt, aundef] at h
  | [a, b], v, h => by
    have h' : gEnt [a, b] = some v := h
    clear h
    unfold gEnt at h'
    split at h'
    · rename_i xs i t e
      cases e
      split at h'
      · rename_i L hL
        split at h'
        · rename_i hc
          cases h'
          have hx := unints_eq hL
          subst hx
          obtain ⟨c1, c2, c3⟩ := hc
          obtain ⟨n, rfl⟩ : ∃ n : Nat, i = n := ⟨i.toNat, by omega⟩
          have hn : n < L.length := by omega
          rw [show ((n : Int)).toNat = n from rfl]
          have fr := ints_fr (L.set n t)
          have fr0 := ints_fr L
          refine ⟨by simp [AVal.free, fr], by simp [AVal.strip, freeL_strip fr], pure_of_run drawn ?_ (u14 ent_code hn c3 t _)⟩
          simp [stripL, AVal.strip, freeL, AVal.free, freeL_strip fr0, fr0]
        · cases h'
      · cases h'
    · cases h'
  | a :: b :: c :: l, v, h => by simp [gEnt] at h
theorem known : Known Try.prog [2000095, 107, 2000069, 2000038, 4000003, 1000033] (xprogG Try.prog [2000095, 107, 2000069, 2000038, 4000003, 1000033] [(14, 2, gEnt)]) :=
  known_xprogG _ _ _ (by
    intro q hq
    simp only [List.mem_singleton] at hq
    subst hq
    exact ⟨by decide, ent_pure⟩)
theorem ent_given (L : List Int) (i : Nat) (t : Int) (hi : i < L.length) (hn : L.length ≤ 1000) (σ : Store) : Run (xprogG Try.prog [2000095, 107, 2000069, 2000038, 4000003, 1000033] [(14, 2, gEnt)]) (.call 14) [.list 1 (ints L) none, .agg [.int .i64 (i : Int), .int .i64 t]] σ = some (.ret, [.list 1 (ints (L.set i t)) none], σ) := by
  have fr := ints_fr (L.set i t)
  have fr0 := ints_fr L
  have fs := freeL_strip fr
  have hX : xprogG Try.prog [2000095, 107, 2000069, 2000038, 4000003, 1000033] [(14, 2, gEnt)] 14 = some ⟨.given gEnt, 2, [.t 0]⟩ := rfl
  have key := call2 (X := xprogG Try.prog [2000095, 107, 2000069, 2000038, 4000003, 1000033] [(14, 2, gEnt)]) (a := .list 1 (ints L) none) (b := .agg [.int .i64 (i : Int), .int .i64 t]) (v := .list 1 (ints (L.set i t)) none) hX (by simp [AVal.strip, AVal.free, freeL_strip fr0, fr0]) rfl (by decide) (fun tm hl h0 h1 => by
    simp only [AVal.strip, stripL, freeL_strip fr0] at h0 h1
    match tm, hl with
    | [a, b], _ =>
      have ha : a = .list 1 (ints L) none := h0
      have hb : b = .agg [.int .i64 (i : Int), .int .i64 t] := h1
      subst ha; subst hb
      have hg : gEnt [.list 1 (ints L) none, .agg [.int .i64 (i : Int), .int .i64 t]] = some (.list 1 (ints (L.set i t)) none) := by
        have c : (0 : Int) ≤ (i : Int) ∧ (i : Int) < L.length ∧ L.length ≤ 1000 := ⟨by omega, by omega, hn⟩
        simp only [gEnt, unints_ints, c, and_self, if_true]
        rfl
      unfold Gives
      rw [Run_given, hg]
      rfl) (by simp [AVal.strip, AVal.free, fs, fr]) σ
  simpa [AVal.strip, fs] using key
end Go.Proofs.Ytjbegiaceekgcab

/-
  SequenceLocked: its computed cells, one by one.
-/
namespace Go.Proofs.Ytjbegiaceekgcab
theorem sequenceLocked_j0 : (Rows.sequenceLockedRow.inPlace == Try.checked.prog.inPlace 3) = true := by kernel_rfl
theorem sequenceLocked_j1 : (Rows.sequenceLockedRow.unfollowed == Try.checked.prog.unfollowed 3) = true := by kernel_rfl
theorem sequenceLocked_j2 : (Rows.sequenceLockedRow.recurses == Try.checked.prog.recurses 3) = true := by kernel_rfl
theorem sequenceLocked_j3 : (Rows.sequenceLockedRow.named == Try.checked.prog.varsNamed 3) = true := by kernel_rfl
theorem sequenceLocked_j4 : (Rows.sequenceLockedRow.plainKeys == Try.checked.prog.plainKeys) = true := by kernel_rfl
theorem sequenceLocked_j5 : (Rows.sequenceLockedRow.lifted == Try.checked.prog.liftsFinal) = true := by kernel_rfl
theorem sequenceLocked_j6 : (Try.checked.prog.stopsHeard) = true := by kernel_rfl
theorem sequenceLocked_j7 : (Try.checked.prog.mayEnter) = true := by kernel_rfl
theorem sequenceLocked_j8 : (laidOutB Try.checked.prog) = true := by kernel_rfl
theorem sequenceLocked_j9 : (mapsRowed Try.checked.prog) = true := by kernel_rfl
theorem sequenceLocked_joined : joinedFacts Try.checked.prog 3 Try.f3 Rows.sequenceLockedSpec Rows.sequenceLockedRow = true := by
  unfold joinedFacts
  rw [sequenceLocked_j0, sequenceLocked_j1, sequenceLocked_j2, sequenceLocked_j3, sequenceLocked_j4, sequenceLocked_j5, sequenceLocked_j6, sequenceLocked_j7, sequenceLocked_j8, sequenceLocked_j9]
  kernel_rfl
end Go.Proofs.Ytjbegiaceekgcab
