/-
  READINGS, A: net flows and readings, and which are valid.
-/
import Derived.Test.YtbgjmclpahganaaTab1
import Derived.Test.YtbgjmclpahganaaCode1
namespace Go.Proofs.Ytbgjmclpahganaa.Eng
set_option linter.unusedSimpArgs false
set_option linter.unusedVariables false

theorem DL.list {l : List Int} {v : AVal} (h : DL l v) (h0 : 0 < l.length) : v = .list 1 (ints l) none := by
  rcases h with ⟨_, rfl⟩ | h
  · simp at h0
  · exact h
/-- A reading: its tick, and a range of levels. -/
abbrev Rd := Int × Int × Int
def Rd.enc (r : Rd) : AVal := .agg [.int .i64 r.1, .int .i64 r.2.1, .int .i64 r.2.2]
def rds (l : List Rd) : List AVal := l.map Rd.enc
theorem rds_free (l : List Rd) : freeL (rds l) = true := by rw [freeL_all]; intro x hx; obtain ⟨s, _, rfl⟩ := List.mem_map.1 hx; rfl
theorem rds_strip (l : List Rd) : stripL (rds l) = rds l := freeL_strip (rds_free l)
@[simp] theorem rds_len (l : List Rd) : (rds l).length = l.length := by simp [rds]
theorem rds_ones (l : List Rd) : ones (rds l) = true := by simp [ones, rds, Rd.enc, AVal.one]
def rat (l : List Rd) (i : Nat) : Rd := l.getD i (0, 0, 0)
theorem rds_getElem? {l : List Rd} {i : Nat} (h : i < l.length) : (rds l)[i]? = some (Rd.enc (rat l i)) := by
  unfold rat rds; rw [List.getElem?_map, List.getD_eq_getElem?_getD, List.getElem?_eq_getElem h]; rfl
@[simp] theorem rds_get {l : List Rd} {i : Nat} (h : i < (rds l).length) : (rds l)[i] = Rd.enc (rat l i) := by
  have := rds_getElem? (l := l) (i := i) (by simpa using h)
  rw [List.getElem?_eq_getElem h] at this
  exact Option.some.inj this
/-- Readings, as they come. -/
def RL (l : List Rd) (v : AVal) : Prop := (v = .nils ∧ l = []) ∨ v = .list 3 (rds l) none
theorem RL.strip {l : List Rd} {v : AVal} (h : RL l v) : v.strip = v := by
  rcases h with ⟨rfl, _⟩ | rfl
  · rfl
  · simp [AVal.strip, rds_strip]
theorem RL.free {l : List Rd} {v : AVal} (h : RL l v) : v.free = true := by
  rcases h with ⟨rfl, _⟩ | rfl
  · rfl
  · simp [AVal.free, rds_free]
theorem RL.one {l : List Rd} {v : AVal} (h : RL l v) : v.one = true := by rcases h with ⟨rfl, _⟩ | rfl <;> rfl
theorem RL.xlen {l : List Rd} {v : AVal} (h : RL l v) : xlen v = some (.int .i64 l.length) := by rcases h with ⟨rfl, rfl⟩ | rfl <;> simp
theorem RL.list {l : List Rd} {v : AVal} (h : RL l v) (h0 : 0 < l.length) : v = .list 3 (rds l) none := by
  rcases h with ⟨_, rfl⟩ | h
  · simp at h0
  · exact h

/-- The number at a place. -/
def fat (l : List Int) (i : Nat) : Int := l.getD i 0
theorem ints_fat {l : List Int} {i : Nat} (h : i < l.length) : (ints l)[i]? = some (.int .i64 (fat l i)) := ints_get' h
def nerr (l : List Int) (i : Nat) : Int := if wi (fat l i) (-10000000) 10000000 then 0 else 2
def netErr (l : List Int) : Int := if 200 < l.length then 8 else (fstIx (nerr l) l.length 0).2
def rerr1 (a : List Kn) (n : Int) (r : Rd) : Int := if wi r.1 0 n && (isLev a r.2.1 && isLev a r.2.2) then (if r.2.2 < r.2.1 then 9 else 0) else 2
def rerr (a : List Kn) (n : Int) (l : List Rd) (i : Nat) : Int := rerr1 a n (rat l i)
def rdsErr (a : List Kn) (n : Int) (l : List Rd) : Int := if l.length = 0 then 10 else if 10 < l.length then 8 else (fstIx (rerr a n l) l.length 0).2
def allErr (a : List Kn) (net : List Int) (l : List Rd) : Int := if (tabErr a).2 ≠ 0 then (tabErr a).2 else if netErr net ≠ 0 then netErr net else rdsErr a net.length l

section
variable {X : FuncId → Option XFunc} (hX : ReadCode X)
include hX
end
end Go.Proofs.Ytbgjmclpahganaa.Eng

/-
  READINGS, B: the errors, as both find them.
-/
namespace Go.Proofs.Ytbgjmclpahganaa.Eng
set_option linter.unusedSimpArgs false
set_option linter.unusedVariables false

theorem fat_get {l : List Int} {i : Nat} (h : i < l.length) : l[i] = fat l i := by unfold fat; rw [List.getD_eq_getElem?_getD, List.getElem?_eq_getElem h]; rfl
section
variable {X : FuncId → Option XFunc} (hX : ReadCode X)
include hX
end
end Go.Proofs.Ytbgjmclpahganaa.Eng

/-
  READINGS, C: what a reading permits; what is common.
-/
namespace Go.Proofs.Ytbgjmclpahganaa.Eng
set_option linter.unusedSimpArgs false
set_option linter.unusedVariables false

/-- The sum of the first numbers. -/
def sm (l : List Int) : Nat → Int
  | 0 => 0
  | k + 1 => sm l k + fat l k
theorem sm_in {l : List Int} (h : ∀ i, i < l.length → -10000000 ≤ fat l i ∧ fat l i ≤ 10000000) : ∀ k, k ≤ l.length → -(10000000 * (k : Int)) ≤ sm l k ∧ sm l k ≤ 10000000 * (k : Int)
  | 0, _ => by simp [sm]
  | k + 1, hk => by
    have := sm_in h k (by omega); have := h k (by omega)
    simp only [sm]; omega
theorem fat_take {l : List Int} {i k : Nat} (h : i < k) : fat (l.take k) i = fat l i := by
  unfold fat; rw [List.getD_eq_getElem?_getD, List.getD_eq_getElem?_getD, List.getElem?_take_of_lt h]
/-- What a reading permits. -/
def perm (a : List Kn) (net : List Int) (r : Rd) : Kn := ((volR a r.2.1).2 - sm net r.1.toNat, (volR a r.2.2).1 - sm net r.1.toNat)
structure RdOk (a : List Kn) (n : Nat) (r : Rd) : Prop where
  t0 : 0 ≤ r.1
  t1 : r.1 ≤ n
  lo : isLev a r.2.1 = true
  hi : isLev a r.2.2 = true
  le : r.2.1 ≤ r.2.2
theorem rd_ok {a : List Kn} {n : Nat} {r : Rd} (h : rerr1 a n r = 0) : RdOk a n r := by
  unfold rerr1 at h
  split at h
  · rename_i h1
    simp [wi] at h1
    split at h
    · omega
    · exact ⟨h1.1.1, h1.1.2, h1.2.1, h1.2.2, by omega⟩
  · omega
structure NetOk (l : List Int) : Prop where
  len : l.length ≤ 200
  inr : ∀ i, i < l.length → -10000000 ≤ fat l i ∧ fat l i ≤ 10000000
theorem net_ok {l : List Int} (h : netErr l = 0) : NetOk l := by
  unfold netErr at h
  split at h
  · omega
  · refine ⟨by omega, fun i hi => ?_⟩
    have := fstIx_all _ _ h i (by omega) (by omega)
    unfold nerr at this
    split at this
    · rename_i h1; simpa [wi] using h1
    · omega
theorem vol_in {a : List Kn} (t : Tab a) {x : Int} (h : isLev a x = true) : 0 ≤ (volR a x).1 ∧ (volR a x).1 ≤ (volR a x).2 ∧ (volR a x).2 ≤ 1000000000 := by
  have s := lix_s t h
  obtain ⟨j1, j2, j3, j4⟩ := lix_in t h
  have i1 := t.inr _ j2; have i2 := t.inr (lix a x - 1) (by omega)
  unfold InR at i1 i2
  have lo := s.lo
  have e1 : (volR a x).1 = sLo x (kat a (lix a x - 1)).1 (kat a (lix a x)).1 (kat a (lix a x - 1)).2 (kat a (lix a x)).2 := rfl
  have e2 : (volR a x).2 = sHi x (kat a (lix a x - 1)).1 (kat a (lix a x)).1 (kat a (lix a x - 1)).2 (kat a (lix a x)).2 := rfl
  obtain ⟨k1, k2, k3, k4, k5⟩ := lo
  refine ⟨?_, ?_, ?_⟩ <;> omega
/-- The common range of two. -/
def mm (c r : Kn) : Kn := (if c.1 < r.1 then r.1 else c.1, if r.2 < c.2 then r.2 else c.2)
def comN (l : List Kn) : Nat → Kn
  | 0 => kat l 0
  | k + 1 => mm (comN l k) (kat l k)
def emp (r : Kn) : Bool := decide (r.2 < r.1)

theorem call4 {X : FuncId → Option XFunc} {f : FuncId} {xf : XFunc} {a b c d v : AVal} (hx : X f = some xf) (hf : a.strip.free = true) (hg : b.strip.free = true) (hh : c.strip.free = true) (hi : d.strip.free = true) (hn : 4 ≤ xf.ntmps)
    (h : ∀ tm, tm.length = xf.ntmps → XOpd.eval tm (.t 0) = a.strip → XOpd.eval tm (.t 1) = b.strip → XOpd.eval tm (.t 2) = c.strip → XOpd.eval tm (.t 3) = d.strip → Gives X xf tm v) (hv : v.strip.free = true) (σ : Store) : Run X (.call f) [a, b, c, d] σ = some (.ret, [v.strip], σ) := by
  refine call_pure hx (by simp [stripL, freeL, hf, hg, hh, hi]) (h _ (by simp [stripL]; omega) ?_ ?_ ?_ ?_) hv σ
  all_goals (rw [eval_frame _ _ _ (by simp [stripL])]; simp [stripL])
section
variable {X : FuncId → Option XFunc} (hX : ReadCode X)
include hX
end
end Go.Proofs.Ytbgjmclpahganaa.Eng

/-
  READINGS, D: permitted, common.
-/
namespace Go.Proofs.Ytbgjmclpahganaa.Eng
set_option linter.unusedSimpArgs false
set_option linter.unusedVariables false

def P101 (l : List Kn) (tm' : List AVal) (σ' : Store) : Prop := tm'.length = 28 ∧ XOpd.eval tm' (.t 3) = .ptr 1 0 ∧ XOpd.eval tm' (.t 2) = .ptr 0 0 ∧ σ'.get 1 = some (.cells [.int .i64 (comN l l.length).1, .int .i64 (comN l l.length).2]) ∧ σ'.get 0 = some (.cells [.int .i64 0, .int .i64 0]) ∧ 2 ≤ σ'.next
section
variable {X : FuncId → Option XFunc} (hX : ReadCode X)
include hX
end
end Go.Proofs.Ytbgjmclpahganaa.Eng

/-
  READINGS, E: what all readings permit.
-/
namespace Go.Proofs.Ytbgjmclpahganaa.Eng
set_option linter.unusedSimpArgs false
set_option linter.unusedVariables false

/-- Ranges in a list that grows. -/
def OutK (σ : Store) (m0 : Nat) (xs : List Kn) (v : AVal) : Prop := (v = .nils ∧ xs = []) ∨ ∃ j, m0 ≤ j ∧ j < σ.next ∧ v = .list 2 (kns xs) (some j) ∧ σ.get j = some (.tok 30 2 xs.length)
theorem OutK.strip {σ : Store} {m0 : Nat} {xs : List Kn} {v : AVal} (h : OutK σ m0 xs v) : KL xs v.strip := by
  rcases h with ⟨rfl, rfl⟩ | ⟨j, _, _, rfl, _⟩
  · exact .inl ⟨rfl, rfl⟩
  · exact .inr (by simp [AVal.strip, kns_strip])
theorem OutK.later {σ τ : Store} {m0 : Nat} {xs : List Kn} {v : AVal} (h : OutK σ m0 xs v) (hg : ∀ m, m < σ.next → τ.get m = σ.get m) (hn : σ.next ≤ τ.next) : OutK τ m0 xs v := by
  rcases h with h | ⟨j, h1, h2, h3, h4⟩
  · exact .inl h
  · exact .inr ⟨j, h1, by omega, h3, by rw [hg j h2]; exact h4⟩
theorem app_stepK {σ : Store} {m0 : Nat} {xs : List Kn} {v : AVal} {x : Kn} (h : OutK σ m0 xs v) (hn : m0 ≤ σ.next) (hl : xs.length ≤ 1000000) :
    ∃ v' σ', xappend (σ.new (.tok 30 2 1)) 30 2 16 v (.list 2 [.agg [.int .i64 x.1, .int .i64 x.2]] (some σ.next)) = some (v', σ') ∧ OutK σ' m0 (xs ++ [x]) v' ∧ (∀ m, m < m0 → σ'.get m = σ.get m) ∧ m0 ≤ σ'.next := by
  rcases h with ⟨rfl, rfl⟩ | ⟨j, h1, h2, rfl, h3⟩
  · refine ⟨.list 2 (kns [x]) (some (σ.next + 1)), (σ.new (.tok 30 2 1)).new (.tok 30 2 1), by simp [xappend, ones, AVal.one, kns, Kn.enc, Store.new], .inr ⟨σ.next + 1, by omega, by simp [Store.new], rfl, ?_⟩, fun m hm => ?_, by simp [Store.new]; omega⟩
    · rw [Store.get_new]; exact Mem.put_self _ _ _
    · rw [Store.get_new, Mem.put_ne _ (by simp [Store.new]; omega), Store.get_new, Mem.put_ne _ (by omega)]
  · have hg : (σ.new (.tok 30 2 1)).get j = some (.tok 30 2 xs.length) := by rw [Store.get_new, Mem.put_ne _ (by omega)]; exact h3
    have e1 : (xs.length + 1) * 16 ≤ 1000000000000 := by omega
    have e2 : xs.length + 1 ≤ 1000000000000 := by omega
    refine ⟨.list 2 (kns (xs ++ [x])) (some j), (σ.new (.tok 30 2 1)).put j (.tok 30 2 (xs.length + 1)), by simp [xappend, ones, AVal.one, hg, kns, Kn.enc, e1, e2], .inr ⟨j, h1, by simp [Store.new, Store.put]; omega, rfl, ?_⟩, fun m hm => ?_, by simp [Store.new, Store.put]; omega⟩
    · rw [Store.get_put, Mem.put_self]; simp
    · rw [Store.get_put, Mem.put_ne _ (by omega), Store.get_new, Mem.put_ne _ (by omega)]
def perms (a : List Kn) (net : List Int) (l : List Rd) : List Kn := l.map (perm a net)
@[simp] theorem perms_len (a : List Kn) (net : List Int) (l : List Rd) : (perms a net l).length = l.length := by simp [perms]
theorem perms_kat {a : List Kn} {net : List Int} {l : List Rd} {i : Nat} (h : i < l.length) : kat (perms a net l) i = perm a net (rat l i) := by
  unfold kat rat perms
  rw [List.getD_eq_getElem?_getD, List.getD_eq_getElem?_getD, List.getElem?_map, List.getElem?_eq_getElem h]; rfl
theorem perms_take {a : List Kn} {net : List Int} {l : List Rd} {i : Nat} (h : i < l.length) : (perms a net l).take i ++ [perm a net (rat l i)] = (perms a net l).take (i + 1) := by
  rw [← perms_kat h, ← kat_get (by simpa using h)]
  rw [List.take_append_getElem]
theorem rds_ok {a : List Kn} {n : Nat} {l : List Rd} (h : rdsErr a n l = 0) : 0 < l.length ∧ l.length ≤ 10 ∧ ∀ i, i < l.length → RdOk a n (rat l i) := by
  unfold rdsErr at h
  split at h
  · omega
  · split at h
    · omega
    · exact ⟨by omega, by omega, fun i hi => rd_ok (fstIx_all _ _ h i (by omega) (by omega))⟩
def restErr (a : List Kn) (net : List Int) (l : List Rd) : Int := if netErr net ≠ 0 then netErr net else rdsErr a net.length l
theorem reads_ok {a : List Kn} {net : List Int} {l : List Rd} (h : allErr a net l = 0) : Tab a ∧ NetOk net ∧ 0 < l.length ∧ l.length ≤ 10 ∧ ∀ i, i < l.length → RdOk a net.length (rat l i) := by
  unfold allErr at h
  split at h
  · omega
  · rename_i h1
    split at h
    · omega
    · rename_i h2
      have h1 : (tabErr a).2 = 0 := by simpa using h1
      have h2 : netErr net = 0 := by simpa using h2
      exact ⟨tab_of h1, net_ok h2, rds_ok h⟩
theorem rest_eq {a : List Kn} {net : List Int} {l : List Rd} : firstNZ [if decide ((200 : Int) < net.length) then 8 else 0, (fstIx (nerr net) net.length 0).2, if decide ((l.length : Int) = 0) then 10 else 0, if decide ((10 : Int) < l.length) then 8 else 0, (fstIx (rerr a net.length l) l.length 0).2] = restErr a net l := by
  unfold restErr netErr rdsErr
  by_cases c1 : 200 < net.length
  · have : (200 : Int) < net.length := by omega
    simp [firstNZ, c1, this]
  · have c1' : ¬ (200 : Int) < net.length := by omega
    by_cases c2 : (fstIx (nerr net) net.length 0).2 = 0
    · by_cases c3 : l.length = 0
      · have : (l.length : Int) = 0 := by omega
        simp [firstNZ, c1, c1', c2, c3, this]
      · have c3' : ¬ (l.length : Int) = 0 := by omega
        by_cases c4 : 10 < l.length
        · have : (10 : Int) < l.length := by omega
          simp [firstNZ, c1, c1', c2, c3, c3', c4, this]
        · have c4' : ¬ (10 : Int) < l.length := by omega
          by_cases c5 : (fstIx (rerr a net.length l) l.length 0).2 = 0
          · simp only [firstNZ, c1, c1', c2, c3, c3', c4, c4', c5, decide_false, Bool.false_eq_true, if_false, if_true, ne_eq, not_true_eq_false]
          · simp only [firstNZ, c1, c1', c2, c3, c3', c4, c4', c5, decide_false, Bool.false_eq_true, if_false, if_true, ne_eq, not_true_eq_false]
    · simp only [firstNZ, c1, c1', c2, decide_false, Bool.false_eq_true, if_false, if_true, ne_eq, not_false_eq_true]

def P100 (a : List Kn) (net : List Int) (l : List Rd) (tm' : List AVal) (σ' : Store) : Prop := tm'.length = 61 ∧ KL (perms a net l) (XOpd.eval tm' (.t 10)).strip
section
variable {X : FuncId → Option XFunc} (hX : ReadCode X)
include hX
end
end Go.Proofs.Ytbgjmclpahganaa.Eng

/-
  READINGS, F: what is agreed, and what contradicts.
-/
namespace Go.Proofs.Ytbgjmclpahganaa.Eng
set_option linter.unusedSimpArgs false
set_option linter.unusedVariables false

def agr (a : List Kn) (net : List Int) (l : List Rd) : Kn × Int := if allErr a net l ≠ 0 then ((0, 0), allErr a net l) else if emp (comN (perms a net l) l.length) then ((0, 0), 13) else (comN (perms a net l) l.length, 0)
/-- The first place with something. -/
def fe (p : Nat → Bool) : Nat → Nat → Option Nat
  | 0, _ => none
  | k + 1, i => if p i then some i else fe p k (i + 1)
def fp (q : Nat → Nat → Bool) (n : Nat) : Nat → Nat → Option (Nat × Nat)
  | 0, _ => none
  | k + 1, i => match fe (q i) (n - (i + 1)) (i + 1) with
    | some j => some (i, j)
    | none => fp q n k (i + 1)
def P1 (P : List Kn) (i : Nat) : Bool := emp (kat P i)
def P2 (P : List Kn) (i j : Nat) : Bool := emp (mm (kat P i) (kat P j))
def conP (P : List Kn) : List Int × Int := match fe (P1 P) P.length 0 with
  | some i => ([(i : Int)], 0)
  | none => match fp (P2 P) P.length P.length 0 with
    | some (i, j) => ([(i : Int), (j : Int)], 0)
    | none => ([], 12)
def con (a : List Kn) (net : List Int) (l : List Rd) : List Int × Int := if allErr a net l ≠ 0 then ([], allErr a net l) else conP (perms a net l)
theorem mm_self (r : Kn) : mm r r = r := by unfold mm; simp
def intsV (l : List Int) : AVal := if l = [] then .nils else .list 1 (ints l) none
theorem intsV_dl (l : List Int) : DL l (intsV l) := by
  unfold intsV; split
  · rename_i h; exact .inl ⟨rfl, h⟩
  · exact .inr rfl
structure Ret52 (L : List Int) (tm' : List AVal) : Prop where
  len : tm'.length = 64
  v : (XOpd.eval tm' (.t 6)).strip = .list 1 (ints L) none
  e : XOpd.eval tm' (.t 7) = .int .i64 0
def exO {α : Type} (n : Nat) : Option α → XExit
  | none => .exit n
  | some _ => .ret
def Q52a (P : List Kn) (o : Option Nat) (tm' : List AVal) (_ : Store) : Prop := tm'.length = 64 ∧ (o = none → XOpd.eval tm' (.t 8) = .list 2 (kns P) none) ∧ (∀ j, o = some j → Ret52 [(j : Int)] tm')
def Q52b (P : List Kn) (i : Nat) (o : Option Nat) (tm' : List AVal) (_ : Store) : Prop := tm'.length = 64 ∧ (o = none → XOpd.eval tm' (.t 8) = .list 2 (kns P) none ∧ XOpd.eval tm' (.t 37) = .list 2 (kns P) none ∧ XOpd.eval tm' (.t 38) = .int .i64 P.length ∧ XOpd.eval tm' (.t 39) = .int .i64 i) ∧ (∀ j, o = some j → Ret52 [(i : Int), (j : Int)] tm')
def Q52c (o : Option (Nat × Nat)) (tm' : List AVal) (_ : Store) : Prop := tm'.length = 64 ∧ (∀ i j, o = some (i, j) → Ret52 [(i : Int), (j : Int)] tm')
section
variable {X : FuncId → Option XFunc} (hX : ReadCode X)
include hX
end
end Go.Proofs.Ytbgjmclpahganaa.Eng

/-
  READINGS, G: levels and volumes against each other; what has nothing in common.
-/
namespace Go.Proofs.Ytbgjmclpahganaa.Eng
set_option linter.unusedSimpArgs false
set_option linter.unusedVariables false

theorem sLo_ge {x x0 x1 y0 y1 y : Int} (h : x0 < x1) : y ≤ sLo x x0 x1 y0 y1 ↔ (y - y0) * (x1 - x0) ≤ (x - x0) * (y1 - y0) := by
  unfold sLo sNum
  rw [← Int.le_ediv_iff_mul_le (by omega)]
  omega
theorem sHi_le {x x0 x1 y0 y1 y : Int} (h : x0 < x1) : sHi x x0 x1 y0 y1 ≤ y ↔ (x - x0) * (y1 - y0) ≤ (y - y0) * (x1 - x0) := by
  unfold sHi sLo sNum
  generalize hn : (x - x0) * (y1 - y0) = n
  have hd : 0 < x1 - x0 := by omega
  generalize x1 - x0 = d at *
  have e := Int.mul_ediv_add_emod n d
  have e1 := Int.emod_nonneg n (Int.ne_of_gt hd)
  have e2 := Int.emod_lt_of_pos n hd
  have key : ∀ z : Int, (n ≤ z * d ↔ (if 0 < n % d then n / d + 1 else n / d) ≤ z) := by
    intro z
    constructor
    · intro h1
      have h2 : n / d ≤ z := by
        have := Int.ediv_le_ediv hd h1
        rwa [Int.mul_ediv_cancel _ (Int.ne_of_gt hd)] at this
      split
      · by_cases h3 : n / d = z
        · rw [h3, Int.mul_comm] at e; omega
        · omega
      · exact h2
    · intro h1
      have h3 : d * (if 0 < n % d then n / d + 1 else n / d) ≤ d * z := Int.mul_le_mul_of_nonneg_left h1 (by omega)
      rw [Int.mul_comm z d]
      split at h3
      · rw [Int.mul_add] at h3; omega
      · omega
  rw [key]
  split <;> omega
theorem lev_vol {a : List Kn} (t : Tab a) {x y : Int} (hx : isVol a x = true) (hy : isLev a y = true) : (y ≤ (levR a x).1 ↔ (volR a y).2 ≤ x) ∧ ((levR a x).2 ≤ y ↔ x ≤ (volR a y).1) := by
  obtain ⟨i1, i2, i3, i4⟩ := vix_in t hx
  obtain ⟨j1, j2, j3, j4⟩ := lix_in t hy
  have si := vix_s t hx; have sj := lix_s t hy
  have e1 : (levR a x).1 = sLo x (kat a (vix a x - 1)).2 (kat a (vix a x)).2 (kat a (vix a x - 1)).1 (kat a (vix a x)).1 := rfl
  have e2 : (levR a x).2 = sHi x (kat a (vix a x - 1)).2 (kat a (vix a x)).2 (kat a (vix a x - 1)).1 (kat a (vix a x)).1 := rfl
  have e3 : (volR a y).1 = sLo y (kat a (lix a y - 1)).1 (kat a (lix a y)).1 (kat a (lix a y - 1)).2 (kat a (lix a y)).2 := rfl
  have e4 : (volR a y).2 = sHi y (kat a (lix a y - 1)).1 (kat a (lix a y)).1 (kat a (lix a y - 1)).2 (kat a (lix a y)).2 := rfl
  have ci := t.inc _ i1 i2; have cj := t.inc _ j1 j2
  rw [e1, e2, e3, e4, sLo_ge ci.2, sHi_le ci.2, sHi_le cj.1, sLo_ge cj.1]
  have h2 := t.two
  have bx := isVol_iff.1 hx; have bY := isLev_iff.1 hy
  have mi : ∀ m, 1 ≤ m → m < vix a x → (kat a m).2 < x := (upF_spec (fun i => (kat a i).2) x (a.length - 2) 1 (by rw [show 1 + (a.length - 2) = a.length - 1 from by omega]; exact bx.2)).2
  have mj : ∀ m, 1 ≤ m → m < lix a y → (kat a m).1 < y := (upF_spec (fun i => (kat a i).1) y (a.length - 2) 1 (by rw [show 1 + (a.length - 2) = a.length - 1 from by omega]; exact bY.2)).2
  generalize vix a x = i at *
  generalize lix a y = j at *
  by_cases hij : i = j
  · subst hij; exact ⟨Iff.rfl, Iff.rfl⟩
  by_cases hlt : i < j
  · have m1 := mono_lev t (i := i) (j := j - 1) (by omega) (by omega)
    have m2 := mj (j - 1) (by omega) (by omega)
    have s1 : (x - (kat a (i - 1)).2) * ((kat a i).1 - (kat a (i - 1)).1) ≤ ((kat a i).2 - (kat a (i - 1)).2) * ((kat a i).1 - (kat a (i - 1)).1) := Int.mul_le_mul_of_nonneg_right (by omega) (by omega)
    have s2 : ((kat a i).1 - (kat a (i - 1)).1) * ((kat a i).2 - (kat a (i - 1)).2) < (y - (kat a (i - 1)).1) * ((kat a i).2 - (kat a (i - 1)).2) := Int.mul_lt_mul_of_pos_right (by omega) (by omega)
    rw [Int.mul_comm] at s2
    have s3 : (x - (kat a (j - 1)).2) * ((kat a j).1 - (kat a (j - 1)).1) ≤ 0 * ((kat a j).1 - (kat a (j - 1)).1) := Int.mul_le_mul_of_nonneg_right (by omega) (by omega)
    have s4 : 0 * ((kat a j).2 - (kat a (j - 1)).2) < (y - (kat a (j - 1)).1) * ((kat a j).2 - (kat a (j - 1)).2) := Int.mul_lt_mul_of_pos_right (by omega) (by omega)
    rw [Int.zero_mul] at s3 s4
    constructor <;> constructor <;> intro h <;> omega
  · have m1 := mono_lev t (i := j) (j := i - 1) (by omega) (by omega)
    have m2 := mi (i - 1) (by omega) (by omega)
    have s1 : (y - (kat a (j - 1)).1) * ((kat a j).2 - (kat a (j - 1)).2) ≤ ((kat a j).1 - (kat a (j - 1)).1) * ((kat a j).2 - (kat a (j - 1)).2) := Int.mul_le_mul_of_nonneg_right (by omega) (by omega)
    have s2 : ((kat a j).2 - (kat a (j - 1)).2) * ((kat a j).1 - (kat a (j - 1)).1) < (x - (kat a (j - 1)).2) * ((kat a j).1 - (kat a (j - 1)).1) := Int.mul_lt_mul_of_pos_right (by omega) (by omega)
    rw [Int.mul_comm ((kat a j).2 - (kat a (j - 1)).2)] at s2
    have s3 : (y - (kat a (i - 1)).1) * ((kat a i).2 - (kat a (i - 1)).2) ≤ 0 * ((kat a i).2 - (kat a (i - 1)).2) := Int.mul_le_mul_of_nonneg_right (by omega) (by omega)
    have s4 : 0 * ((kat a i).1 - (kat a (i - 1)).1) < (x - (kat a (i - 1)).2) * ((kat a i).1 - (kat a (i - 1)).1) := Int.mul_lt_mul_of_pos_right (by omega) (by omega)
    rw [Int.zero_mul] at s3 s4
    constructor <;> constructor <;> intro h <;> omega
theorem vol_range {a : List Kn} (t : Tab a) {y : Int} (hy : isLev a y = true) : (kat a 0).2 ≤ (volR a y).1 ∧ (volR a y).1 ≤ (volR a y).2 ∧ (volR a y).2 ≤ (kat a (a.length - 1)).2 := by
  obtain ⟨j1, j2, j3, j4⟩ := lix_in t hy
  have lo := (lix_s t hy).lo
  have e3 : (volR a y).1 = sLo y (kat a (lix a y - 1)).1 (kat a (lix a y)).1 (kat a (lix a y - 1)).2 (kat a (lix a y)).2 := rfl
  have e4 : (volR a y).2 = sHi y (kat a (lix a y - 1)).1 (kat a (lix a y)).1 (kat a (lix a y - 1)).2 (kat a (lix a y)).2 := rfl
  have m1 := mono_lev t (i := 0) (j := lix a y - 1) (by omega) (by omega)
  have m2 := mono_lev t (i := lix a y) (j := a.length - 1) (by omega) (by omega)
  rw [e3, e4]
  obtain ⟨k1, k2, k3, k4, k5⟩ := lo
  refine ⟨?_, ?_, ?_⟩ <;> omega
/-- Is the volume within what was read? -/
def okR (a : List Kn) (net : List Int) (V : Int) (r : Rd) : Bool := isVol a (V + sm net r.1.toNat) && (decide (r.2.1 ≤ (levR a (V + sm net r.1.toNat)).1) && decide ((levR a (V + sm net r.1.toNat)).2 ≤ r.2.2))
theorem okR_iff {a : List Kn} (t : Tab a) {net : List Int} {V : Int} {r : Rd} (ro : RdOk a net.length r) : okR a net V r = true ↔ (perm a net r).1 ≤ V ∧ V ≤ (perm a net r).2 := by
  have v1 := vol_range t ro.lo; have v2 := vol_range t ro.hi
  unfold okR perm
  by_cases hx : isVol a (V + sm net r.1.toNat) = true
  · have h1 := (lev_vol t hx ro.lo).1; have h2 := (lev_vol t hx ro.hi).2
    simp only [hx, Bool.true_and, Bool.and_eq_true, decide_eq_true_eq, h1, h2]
    omega
  · have hx' : isVol a (V + sm net r.1.toNat) = false := by simpa using hx
    simp only [hx', Bool.false_and]
    constructor
    · intro h; cases h
    · intro h
      exfalso; apply hx
      exact isVol_iff.2 (by omega)

/-! What has something in common. -/
theorem fe_some {p : Nat → Bool} : ∀ {k i r : Nat}, fe p k i = some r → i ≤ r ∧ r < i + k ∧ p r = true
  | 0, _, _, h => by cases h
  | k + 1, i, r, h => by
    simp only [fe] at h
    split at h
    · cases h; rename_i hp; exact ⟨Nat.le_refl _, by omega, hp⟩
    · obtain ⟨h1, h2, h3⟩ := fe_some h; exact ⟨by omega, by omega, h3⟩
theorem fe_none {p : Nat → Bool} : ∀ {k i : Nat}, fe p k i = none → ∀ r, i ≤ r → r < i + k → p r = false
  | 0, _, _, r, h1, h2 => by omega
  | k + 1, i, h, r, h1, h2 => by
    simp only [fe] at h
    split at h
    · cases h
    · rename_i hp
      by_cases e : r = i
      · subst e; simpa using hp
      · exact fe_none h r (by omega) (by omega)
theorem fp_some {q : Nat → Nat → Bool} {n : Nat} : ∀ {k i r s : Nat}, i + k = n → fp q n k i = some (r, s) → i ≤ r ∧ r < s ∧ s < n ∧ q r s = true
  | 0, _, _, _, _, h => by cases h
  | k + 1, i, r, s, hk, h => by
    simp only [fp] at h
    split at h
    · rename_i j hj
      cases h
      obtain ⟨h1, h2, h3⟩ := fe_some hj
      exact ⟨Nat.le_refl _, by omega, by omega, h3⟩
    · obtain ⟨h1, h2, h3, h4⟩ := fp_some (by omega) h
      exact ⟨by omega, h2, h3, h4⟩
theorem fp_none {q : Nat → Nat → Bool} {n : Nat} : ∀ {k i : Nat}, i + k = n → fp q n k i = none → ∀ r s, i ≤ r → r < s → s < n → q r s = false
  | 0, _, _, _, r, s, h1, h2, h3 => by omega
  | k + 1, i, hk, h, r, s, h1, h2, h3 => by
    simp only [fp] at h
    split at h
    · cases h
    · rename_i hn
      by_cases e : r = i
      · subst e; exact fe_none hn s (by omega) (by omega)
      · exact fp_none (by omega) h r s (by omega) h2 h3
theorem mm_fst (c r : Kn) : c.1 ≤ (mm c r).1 ∧ r.1 ≤ (mm c r).1 ∧ ((mm c r).1 = c.1 ∨ (mm c r).1 = r.1) := by
  unfold mm; simp only; split <;> omega
theorem mm_snd (c r : Kn) : (mm c r).2 ≤ c.2 ∧ (mm c r).2 ≤ r.2 ∧ ((mm c r).2 = c.2 ∨ (mm c r).2 = r.2) := by
  unfold mm; simp only; split <;> omega
theorem com_ge {P : List Kn} : ∀ k i, i < k → (kat P i).1 ≤ (comN P k).1 ∧ (comN P k).2 ≤ (kat P i).2
  | 0, i, h => by omega
  | k + 1, i, h => by
    have f1 := mm_fst (comN P k) (kat P k); have f2 := mm_snd (comN P k) (kat P k)
    show (kat P i).1 ≤ (mm (comN P k) (kat P k)).1 ∧ (mm (comN P k) (kat P k)).2 ≤ (kat P i).2
    by_cases e : i = k
    · subst e; omega
    · have := com_ge (P := P) k i (by omega); omega
theorem com_is {P : List Kn} (h0 : 0 < P.length) : ∀ k, k ≤ P.length → (∃ i, i < P.length ∧ (comN P k).1 = (kat P i).1) ∧ (∃ j, j < P.length ∧ (comN P k).2 = (kat P j).2)
  | 0, _ => ⟨⟨0, h0, rfl⟩, ⟨0, h0, rfl⟩⟩
  | k + 1, h => by
    obtain ⟨⟨i, i1, i2⟩, ⟨j, j1, j2⟩⟩ := com_is h0 k (by omega)
    have f1 := mm_fst (comN P k) (kat P k); have f2 := mm_snd (comN P k) (kat P k)
    refine ⟨?_, ?_⟩
    · rcases f1.2.2 with e | e
      · exact ⟨i, i1, by rw [← i2]; exact e⟩
      · exact ⟨k, by omega, e⟩
    · rcases f2.2.2 with e | e
      · exact ⟨j, j1, by rw [← j2]; exact e⟩
      · exact ⟨k, by omega, e⟩
theorem emp_iff {r : Kn} : emp r = true ↔ r.2 < r.1 := by simp [emp]
theorem emp_no {r : Kn} : emp r = false ↔ r.1 ≤ r.2 := by simp [emp]
/-- Where all have nothing in common, one is empty, or two have nothing in common. -/
theorem helly {P : List Kn} (h0 : 0 < P.length) (h : emp (comN P P.length) = true) (h1 : fe (P1 P) P.length 0 = none) : ∃ i j, fp (P2 P) P.length P.length 0 = some (i, j) := by
  cases h2 : fp (P2 P) P.length P.length 0 with
  | some ij => exact ⟨ij.1, ij.2, rfl⟩
  | none =>
    exfalso
    obtain ⟨⟨i, i1, i2⟩, ⟨j, j1, j2⟩⟩ := com_is h0 P.length (Nat.le_refl _)
    rw [emp_iff, i2, j2] at h
    have s1 := fe_none h1
    have s2 := fp_none (by omega) h2
    have g1 := emp_no.1 (s1 i (by omega) (by omega)); have g2 := emp_no.1 (s1 j (by omega) (by omega))
    by_cases e : i = j
    · subst e; omega
    · by_cases hlt : i < j
      · have := emp_no.1 (s2 i j (by omega) hlt j1)
        have f1 := mm_fst (kat P i) (kat P j); have f2 := mm_snd (kat P i) (kat P j); omega
      · have := emp_no.1 (s2 j i (by omega) (by omega) i1)
        have f1 := mm_fst (kat P j) (kat P i); have f2 := mm_snd (kat P j) (kat P i); omega
theorem none_of {P : List Kn} (h : emp (comN P P.length) = false) : fe (P1 P) P.length 0 = none ∧ fp (P2 P) P.length P.length 0 = none := by
  rw [emp_no] at h
  constructor
  · cases h1 : fe (P1 P) P.length 0 with
    | none => rfl
    | some r =>
      obtain ⟨r1, r2, r3⟩ := fe_some h1
      have := emp_iff.1 r3
      have := com_ge (P := P) P.length r (by omega); omega
  · cases h1 : fp (P2 P) P.length P.length 0 with
    | none => rfl
    | some rs =>
      obtain ⟨r, s⟩ := rs
      obtain ⟨r1, r2, r3, r4⟩ := fp_some (by omega) h1
      have := emp_iff.1 r4
      have c1 := com_ge (P := P) P.length r (by omega); have c2 := com_ge (P := P) P.length s (by omega)
      have f1 := mm_fst (kat P r) (kat P s); have f2 := mm_snd (kat P r) (kat P s); omega
end Go.Proofs.Ytbgjmclpahganaa.Eng
