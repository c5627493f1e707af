/-
  READINGS, A: net flows and readings, and which are valid.
-/
import Derived.Test.YtbgjmclpahganaaGreatTab1
import Derived.Test.YtbgjmclpahganaaGreatCode1
namespace Go.Proofs.YtbgjmclpahganaaGreat.Eng
set_option linter.unusedSimpArgs false
set_option linter.unusedVariables false

theorem DL.list {l : List Int} {v : AVal} (h : DL l v) (h0 : 0 < l.length) : v = .list 1 (ints l) none := by
  rcases h with ⟨_, rfl⟩ | h
  · simp at h0
  · exact h
/-- A reading: its tick, and a range of levels. -/
abbrev Rdg := Int × Int × Int
def Rdg.enc (r : Rdg) : AVal := .agg [.int .i64 r.1, .int .i64 r.2.1, .int .i64 r.2.2]
def rds (l : List Rdg) : List AVal := l.map Rdg.enc
theorem rds_free (l : List Rdg) : freeL (rds l) = true := by rw [freeL_all]; intro x hx; obtain ⟨s, _, rfl⟩ := List.mem_map.1 hx; rfl
theorem rds_strip (l : List Rdg) : stripL (rds l) = rds l := freeL_strip (rds_free l)
@[simp] theorem rds_len (l : List Rdg) : (rds l).length = l.length := by simp [rds]
theorem rds_ones (l : List Rdg) : ones (rds l) = true := by simp [ones, rds, Rdg.enc, AVal.one]
def rat (l : List Rdg) (i : Nat) : Rdg := l.getD i (0, 0, 0)
theorem rds_getElem? {l : List Rdg} {i : Nat} (h : i < l.length) : (rds l)[i]? = some (Rdg.enc (rat l i)) := by
  unfold rat rds; rw [List.getElem?_map, List.getD_eq_getElem?_getD, List.getElem?_eq_getElem h]; rfl
@[simp] theorem rds_get {l : List Rdg} {i : Nat} (h : i < (rds l).length) : (rds l)[i] = Rdg.enc (rat l i) := by
  have := rds_getElem? (l := l) (i := i) (by simpa using h)
  rw [List.getElem?_eq_getElem h] at this
  exact Option.some.inj this
/-- Readings, as they come. -/
def RL (l : List Rdg) (v : AVal) : Prop := (v = .nils ∧ l = []) ∨ v = .list 3 (rds l) none
theorem RL.strip {l : List Rdg} {v : AVal} (h : RL l v) : v.strip = v := by
  rcases h with ⟨rfl, _⟩ | rfl
  · rfl
  · simp [AVal.strip, rds_strip]
theorem RL.free {l : List Rdg} {v : AVal} (h : RL l v) : v.free = true := by
  rcases h with ⟨rfl, _⟩ | rfl
  · rfl
  · simp [AVal.free, rds_free]
theorem RL.one {l : List Rdg} {v : AVal} (h : RL l v) : v.one = true := by rcases h with ⟨rfl, _⟩ | rfl <;> rfl
theorem RL.xlen {l : List Rdg} {v : AVal} (h : RL l v) : xlen v = some (.int .i64 l.length) := by rcases h with ⟨rfl, rfl⟩ | rfl <;> simp
theorem RL.list {l : List Rdg} {v : AVal} (h : RL l v) (h0 : 0 < l.length) : v = .list 3 (rds l) none := by
  rcases h with ⟨_, rfl⟩ | h
  · simp at h0
  · exact h

/-- The number at a place. -/
def fat (l : List Int) (i : Nat) : Int := l.getD i 0
theorem ints_fat {l : List Int} {i : Nat} (h : i < l.length) : (ints l)[i]? = some (.int .i64 (fat l i)) := ints_get' h
def nerr (l : List Int) (i : Nat) : Int := if wi (fat l i) (-10000000) 10000000 then 0 else 2
def netErr (l : List Int) : Int := if 200 < l.length then 8 else (fstIx (nerr l) l.length 0).2
def rerr1 (a : List Kn) (n : Int) (r : Rdg) : Int := if wi r.1 0 n && (isLev a r.2.1 && isLev a r.2.2) then (if r.2.2 < r.2.1 then 9 else 0) else 2
def rerr (a : List Kn) (n : Int) (l : List Rdg) (i : Nat) : Int := rerr1 a n (rat l i)
def rdsErr (a : List Kn) (n : Int) (l : List Rdg) : Int := if l.length = 0 then 10 else if 10 < l.length then 8 else (fstIx (rerr a n l) l.length 0).2
def allErr (a : List Kn) (net : List Int) (l : List Rdg) : Int := if (tabErr a).2 ≠ 0 then (tabErr a).2 else if netErr net ≠ 0 then netErr net else rdsErr a net.length l

section
variable {X : FuncId → Option XFunc} (hX : ReadCode X)
include hX
theorem loop98 {l : List Int} {v : AVal} (h : DL l v) (hn : l.length ≤ 1000000) : ∀ (k i : Nat), i + k = l.length → ∀ (tm : List AVal) (σ : Store), tm.length = 19 → XOpd.eval tm (.t 0) = v → XOpd.eval tm (.t 3) = .int .i64 i →
    Ends (Run X (.code (.loop xf64l0)) tm σ) (if (fstIx (nerr l) k i).2 = 0 then .exit 0 else .ret) fun tm' _ => tm'.length = 19 ∧ ((fstIx (nerr l) k i).2 ≠ 0 → XOpd.eval tm' (.t 2) = .int .i64 (fstIx (nerr l) k i).2)
  | 0, i, hk, tm, σ, hl, h0, h3 => by
    rw [Run_loop]
    have hi : ¬ (i : Int) < l.length := by omega
    simp [xf64l0, hl, h0, h3, h.xlen, hi, fstIx]
  | k + 1, i, hk, tm, σ, hl, h0, h3 => by
    have hi : (i : Int) < l.length := by omega
    have hv := h.list (by omega)
    subst hv
    have hw : IntKind.i64.wrap ((i : Int) + 1) = ((i + 1 : Nat) : Int) := by rw [wrap_i64] <;> omega
    have t1 := sea25 hX.tab.sea (fat l i) (-10000000) 10000000
    have g1 := ints_fat (l := l) (i := i) (by omega)
    rw [Run_loop]
    cases c : wi (fat l i) (-10000000) 10000000
    · have e : nerr l i = 2 := by simp only [nerr, c, Bool.false_eq_true, if_false]
      rw [c] at t1
      simp only [fstIx, e]
      simp [xf64l0, hl, h0, h3, hi, g1, t1]
    · have e : nerr l i = 0 := by simp only [nerr, c, if_true]
      have ih := loop98 h hn k (i + 1) (by omega)
      rw [c] at t1
      simp only [fstIx, e, if_true]
      simp [xf64l0, hl, h0, h3, hi, g1, t1, hw]
      exact ih _ _ (by simp [hl]) (by simp [hl, h0]) (by simp [hl])
theorem t98 {l : List Int} {v : AVal} (h : DL l v) (hn : l.length ≤ 1000000) (σ : Store) : Run X (.call 64) [v] σ = some (.ret, [.int .i64 (netErr l)], σ) := by
  refine call1 (v := .int .i64 (netErr l)) hX.h64 (by rw [h.strip]; exact h.free) (by decide) (fun tm hl h0 => ?_) rfl σ
  rw [h.strip] at h0
  replace hl : tm.length = 19 := hl
  have hL := fun tm σ h1 h2 h3 => out_of (loop98 hX h hn l.length 0 (by omega) tm σ h1 h2 h3)
  unfold Gives
  by_cases c : 200 < l.length
  · have c' : (200 : Int) < l.length := by omega
    simp [xf64, hl, h0, h.xlen, c, c', netErr]
  · have c' : ¬ (200 : Int) < l.length := by omega
    by_cases he : (fstIx (nerr l) l.length 0).2 = 0
    · simp only [he, if_true] at hL
      simp (maxDischargeDepth := 9) [xf64, hl, h0, h.xlen, c, c', netErr, hL, he]
    · simp only [he, if_false] at hL
      simp (maxDischargeDepth := 9) [xf64, hl, h0, h.xlen, c, c', netErr, hL, he]
set_option maxHeartbeats 2000000 in
theorem loop99 {a : List Kn} {u : AVal} (ha : KL a u) (ha0 : 0 < a.length) (ha1 : a.length ≤ 1000000) {net : List Int} {v : AVal} (hn : DL net v) (hn1 : net.length ≤ 1000000) {l : List Rdg} {w : AVal} (h : RL l w) (hl1 : l.length ≤ 1000000) : ∀ (k i : Nat), i + k = l.length → ∀ (tm : List AVal) (σ : Store), tm.length = 64 → XOpd.eval tm (.t 1) = v → XOpd.eval tm (.t 2) = w → XOpd.eval tm (.t 3) = .ptr 0 0 → σ.get 0 = some (.cells [u]) → XOpd.eval tm (.t 7) = .int .i64 i →
    Ends (Run X (.code (.loop xf65l0)) tm σ) (if (fstIx (rerr a net.length l) k i).2 = 0 then .exit 0 else .ret) fun tm' _ => tm'.length = 64 ∧ ((fstIx (rerr a net.length l) k i).2 ≠ 0 → XOpd.eval tm' (.t 6) = .int .i64 (fstIx (rerr a net.length l) k i).2)
  | 0, i, hk, tm, σ, hl, h1, h2, h3, g0, h7 => by
    rw [Run_loop]
    have hi : ¬ (i : Int) < l.length := by omega
    simp [xf65l0, hl, h2, h7, h.xlen, hi, fstIx]
  | k + 1, i, hk, tm, σ, hl, h1, h2, h3, g0, h7 => by
    have hi : (i : Int) < l.length := by omega
    have hv := h.list (by omega)
    subst hv
    have hw : IntKind.i64.wrap ((i : Int) + 1) = ((i + 1 : Nat) : Int) := by rw [wrap_i64] <;> omega
    have t1 := sea25 hX.tab.sea (rat l i).1 0 net.length
    have t2 := t19 hX.tab ha ha0 ha1 (rat l i).2.1; have t3 := t19 hX.tab ha ha0 ha1 (rat l i).2.2
    have g1 := rds_getElem? (l := l) (i := i) (by omega)
    have nx := hn.xlen
    have ih := loop99 ha ha0 ha1 hn hn1 h hl1 k (i + 1) (by omega)
    rw [Run_loop]
    cases c1 : wi (rat l i).1 0 net.length
    · have e : rerr a net.length l i = 2 := by simp [rerr, rerr1, c1]
      simp only [fstIx, e]
      rw [c1] at t1
      cases c2 : isLev a (rat l i).2.1 <;> cases c3 : isLev a (rat l i).2.2 <;> simp [xf65l0, hl, h1, h2, h3, h7, g0, nx, hi, g1, t1, t2, t3, c2, c3, Rdg.enc, ha.one, ha.strip, ha.free, put_next, new_next, Store.get_new, Store.get_put, put_get, setR, only_get, merge_get', only_next, merge_next, upTo_self, upTo_one, merge_only, touch, wrote, isIn, okRec, hits, capsOf, xcaps, stripL, AVal.strip, freeL, AVal.free, fillR, chunks, mkV]
    rw [c1] at t1
    cases c2 : isLev a (rat l i).2.1
    · have e : rerr a net.length l i = 2 := by simp [rerr, rerr1, c2]
      simp only [fstIx, e]
      cases c3 : isLev a (rat l i).2.2 <;> simp [xf65l0, hl, h1, h2, h3, h7, g0, nx, hi, g1, t1, t2, t3, c2, c3, Rdg.enc, ha.one, ha.strip, ha.free, put_next, new_next, Store.get_new, Store.get_put, put_get, setR, only_get, merge_get', only_next, merge_next, upTo_self, upTo_one, merge_only, touch, wrote, isIn, okRec, hits, capsOf, xcaps, stripL, AVal.strip, freeL, AVal.free, fillR, chunks, mkV]
    cases c3 : isLev a (rat l i).2.2
    · have e : rerr a net.length l i = 2 := by simp [rerr, rerr1, c3]
      simp only [fstIx, e]
      simp [xf65l0, hl, h1, h2, h3, h7, g0, nx, hi, g1, t1, t2, t3, c2, c3, Rdg.enc, ha.one, ha.strip, ha.free, put_next, new_next, Store.get_new, Store.get_put, put_get, setR, only_get, merge_get', only_next, merge_next, upTo_self, upTo_one, merge_only, touch, wrote, isIn, okRec, hits, capsOf, xcaps, stripL, AVal.strip, freeL, AVal.free, fillR, chunks, mkV]
    by_cases c4 : (rat l i).2.2 < (rat l i).2.1
    · have e : rerr a net.length l i = 9 := by simp only [rerr, rerr1, c1, c2, c3, c4, Bool.and_self, if_true]
      simp only [fstIx, e]
      simp [xf65l0, hl, h1, h2, h3, h7, g0, nx, hi, g1, t1, t2, t3, c2, c3, c4, Rdg.enc, ha.one, ha.strip, ha.free, put_next, new_next, Store.get_new, Store.get_put, put_get, setR, only_get, merge_get', only_next, merge_next, upTo_self, upTo_one, merge_only, touch, wrote, isIn, okRec, hits, capsOf, xcaps, stripL, AVal.strip, freeL, AVal.free, fillR, chunks, mkV]
    · have e : rerr a net.length l i = 0 := by simp only [rerr, rerr1, c1, c2, c3, c4, Bool.and_self, if_true, if_false]
      simp only [fstIx, e, if_true]
      simp [xf65l0, hl, h1, h2, h3, h7, g0, nx, hi, g1, t1, t2, t3, c2, c3, c4, hw, Rdg.enc, ha.one, ha.strip, ha.free, put_next, new_next, Store.get_new, Store.get_put, put_get, setR, only_get, merge_get', only_next, merge_next, upTo_self, upTo_one, merge_only, touch, wrote, isIn, okRec, hits, capsOf, xcaps, stripL, AVal.strip, freeL, AVal.free, fillR, chunks, mkV]
      exact ih _ _ (by simp [hl]) (by simp [hl, h1]) (by simp [hl, h2]) (by simp [hl, h3]) (by simp [g0, put_next, new_next, Store.get_new, Store.get_put, put_get, setR, only_get, merge_get', only_next, merge_next, upTo_self, upTo_one, merge_only, touch, wrote, isIn, okRec, hits, capsOf, xcaps, stripL, AVal.strip, freeL, AVal.free, fillR, chunks, mkV]) (by simp [hl])
end
end Go.Proofs.YtbgjmclpahganaaGreat.Eng

/-
  READINGS, B: the errors, as both find them.
-/
namespace Go.Proofs.YtbgjmclpahganaaGreat.Eng
set_option linter.unusedSimpArgs false
set_option linter.unusedVariables false

theorem fat_get {l : List Int} {i : Nat} (h : i < l.length) : l[i] = fat l i := by unfold fat; rw [List.getD_eq_getElem?_getD, List.getElem?_eq_getElem h]; rfl
section
variable {X : FuncId → Option XFunc} (hX : ReadCode X)
include hX
theorem t99 {a : List Kn} {u : AVal} (ha : KL a u) (ha0 : 0 < a.length) (ha1 : a.length ≤ 1000000) {net : List Int} {v : AVal} (hn : DL net v) (hn1 : net.length ≤ 1000000) {l : List Rdg} {w : AVal} (h : RL l w) (hl1 : l.length ≤ 1000000) (σ : Store) :
    Run X (.call 65) [.agg [u], v, w] σ = some (.ret, [.int .i64 (rdsErr a net.length l)], σ) := by
  refine call3 (v := .int .i64 (rdsErr a net.length l)) hX.h65 (by simp [AVal.strip, stripL, AVal.free, freeL, ha.strip, ha.free]) (by rw [hn.strip]; exact hn.free) (by rw [h.strip]; exact h.free) (by decide) (fun tm hl h0 h1 h2 => ?_) rfl σ
  simp only [AVal.strip, stripL, ha.strip] at h0
  rw [hn.strip] at h1
  rw [h.strip] at h2
  replace hl : tm.length = 64 := hl
  have hL := fun tm σ a1 a2 a3 a4 a5 a6 => out_of (loop99 hX ha ha0 ha1 hn hn1 h hl1 l.length 0 (by omega) tm σ a1 a2 a3 a4 a5 a6)
  unfold Gives
  by_cases c0 : l.length = 0
  · have c0' : (l.length : Int) = 0 := by omega
    simp [xf65, hl, h0, h1, h2, h.xlen, c0, c0', rdsErr, ha.strip, ha.free, ha.one, Store.empty, Store.new, Store.put, Store.get, look, putL, setR, Store.only, Store.merge, touch, wrote, upTo, isIn, okRec, hits, capsOf, xcaps, stripL, AVal.strip, freeL, AVal.free, fillR, chunks, mkV, List.filter]
  have c0' : ¬ (l.length : Int) = 0 := by omega
  by_cases c : 10 < l.length
  · have c' : (10 : Int) < l.length := by omega
    simp [xf65, hl, h0, h1, h2, h.xlen, c0, c0', c, c', rdsErr, ha.strip, ha.free, ha.one, Store.empty, Store.new, Store.put, Store.get, look, putL, setR, Store.only, Store.merge, touch, wrote, upTo, isIn, okRec, hits, capsOf, xcaps, stripL, AVal.strip, freeL, AVal.free, fillR, chunks, mkV, List.filter]
  · have c' : ¬ (10 : Int) < l.length := by omega
    by_cases he : (fstIx (rerr a net.length l) l.length 0).2 = 0
    · simp only [he, if_true] at hL
      simp (maxDischargeDepth := 9) [xf65, hl, h0, h1, h2, h.xlen, c0, c0', c, c', rdsErr, hL, he, ha.strip, ha.free, ha.one, Store.empty, Store.new, Store.put, Store.get, look, putL, setR, Store.only, Store.merge, touch, wrote, upTo, isIn, okRec, hits, capsOf, xcaps, stripL, AVal.strip, freeL, AVal.free, fillR, chunks, mkV, List.filter]
    · simp only [he, if_false] at hL
      simp (maxDischargeDepth := 9) [xf65, hl, h0, h1, h2, h.xlen, c0, c0', c, c', rdsErr, hL, he, ha.strip, ha.free, ha.one, Store.empty, Store.new, Store.put, Store.get, look, putL, setR, Store.only, Store.merge, touch, wrote, upTo, isIn, okRec, hits, capsOf, xcaps, stripL, AVal.strip, freeL, AVal.free, fillR, chunks, mkV, List.filter]
theorem t48 {a : List Kn} {u : AVal} (ha : KL a u) (ha1 : a.length ≤ 1000000) {net : List Int} {v : AVal} (hn : DL net v) (hn1 : net.length ≤ 1000000) {l : List Rdg} {w : AVal} (h : RL l w) (hl1 : l.length ≤ 1000000) (σ : Store) :
    Run X (.call 35) [.agg [u], v, w] σ = some (.ret, [.int .i64 (allErr a net l)], σ) := by
  have t24 := t24 hX.tab ha ha1; have t98 := t98 hX hn hn1
  refine call3 (v := .int .i64 (allErr a net l)) hX.h35 (by simp [AVal.strip, stripL, AVal.free, freeL, ha.strip, ha.free]) (by rw [hn.strip]; exact hn.free) (by rw [h.strip]; exact h.free) (by decide) (fun tm hl h0 h1 h2 => ?_) rfl σ
  simp only [AVal.strip, stripL, ha.strip] at h0
  rw [hn.strip] at h1
  rw [h.strip] at h2
  replace hl : tm.length = 23 := hl
  unfold Gives
  by_cases c : (tabErr a).2 = 0
  · have t99 := t99 hX ha (by have := tabErr_len c; omega) ha1 hn hn1 h hl1
    by_cases d : netErr net = 0 <;> simp [xf35, hl, h0, h1, h2, t24, t98, t99, c, d, allErr, ha.strip, ha.free, ha.one, Store.empty, Store.new, Store.put, Store.get, look, putL, setR, Store.only, Store.merge, touch, wrote, upTo, isIn, okRec, hits, capsOf, xcaps, stripL, AVal.strip, freeL, AVal.free, fillR, chunks, mkV, List.filter]
  · simp [xf35, hl, h0, h1, h2, t24, t98, c, allErr, ha.strip, ha.free, ha.one, Store.empty, Store.new, Store.put, Store.get, look, putL, setR, Store.only, Store.merge, touch, wrote, upTo, isIn, okRec, hits, capsOf, xcaps, stripL, AVal.strip, freeL, AVal.free, fillR, chunks, mkV, List.filter]
theorem t132 (x : Int) (σ : Store) : Run X (.call 104) [.int .i64 x] σ = some (.ret, [.int .i64 (if wi x (-10000000) 10000000 then 0 else 2)], σ) := by
  have t1 := sea96 hX.tab.sea x (-10000000) 10000000
  refine call1 (v := .int .i64 (if wi x (-10000000) 10000000 then 0 else 2)) hX.h104 rfl (by decide) (fun tm hl h0 => ?_) rfl σ
  simp only [AVal.strip] at h0
  replace hl : tm.length = 6 := hl
  unfold Gives
  cases c : wi x (-10000000) 10000000 <;> rw [c] at t1 <;> simp [xf104, hl, h0, t1]
theorem t131 {net : List Int} (i : Nat) (hi : i < net.length) (σ : Store) : Run X (.call 103) [.int .i64 i, .iptr [.list 1 (ints net) none] 0] σ = some (.ret, [.int .i64 (nerr net i)], σ) := by
  have t1 := t132 hX (fat net i)
  have g1 := ints_fat (l := net) (i := i) hi
  refine call2 (v := .int .i64 (nerr net i)) hX.h103 rfl (by simp [AVal.strip, stripL, AVal.free, freeL, ints_strip, ints_free]) (by decide) (fun tm hl h0 h1 => ?_) rfl σ
  simp only [AVal.strip, stripL, ints_strip] at h0 h1
  replace hl : tm.length = 9 := hl
  unfold Gives
  simp [xf103, hl, h0, h1, hi, fat_get hi, t1, nerr]
set_option maxHeartbeats 4000000 in
theorem t134 {a : List Kn} {u : AVal} (ha : KL a u) (ha0 : 0 < a.length) (ha1 : a.length ≤ 1000000) (r : Rdg) (n : Int) (σ : Store) : Run X (.call 106) [.agg [u], r.enc, .int .i64 n] σ = some (.ret, [.int .i64 (rerr1 a n r)], σ) := by
  have t1 := sea96 hX.tab.sea r.1 0 n; have h59 := sea59 hX.tab.sea
  have t2 := t64 hX.tab ha ha0 ha1 r.2.1; have t3 := t64 hX.tab ha ha0 ha1 r.2.2
  have hE : ∀ (c1 c2 c3 : Bool), Errs X [.fn 113 [] [.iptr [.bool c1] 0, .iptr [.int .i64 2] 0], .fn 113 [] [.iptr [.bool c2] 0, .iptr [.int .i64 2] 0], .fn 113 [] [.iptr [.bool c3] 0, .iptr [.int .i64 9] 0]] [if c1 then 2 else 0, if c2 then 2 else 0, if c3 then 9 else 0] := fun c1 c2 c3 => by
    refine ⟨rfl, by simp [freeL, AVal.free], fun i h h' => ?_⟩
    have hi : i = 0 ∨ i = 1 ∨ i = 2 := by simp at h; omega
    rcases hi with rfl | rfl | rfl
    · exact ⟨_, _, _, rfl, fun σ => sea106 hX.tab.sea c1 2 σ⟩
    · exact ⟨_, _, _, rfl, fun σ => sea106 hX.tab.sea c2 2 σ⟩
    · exact ⟨_, _, _, rfl, fun σ => sea106 hX.tab.sea c3 9 σ⟩
  have h58 := fun c1 c2 c3 tok => sea58 hX.tab.sea (hE c1 c2 c3) (by simp) tok
  refine call3 (v := .int .i64 (rerr1 a n r)) hX.h106 (by simp [AVal.strip, stripL, AVal.free, freeL, ha.strip, ha.free]) rfl rfl (by decide) (fun tm hl h0 h1 h2 => ?_) rfl σ
  simp only [AVal.strip, stripL, ha.strip, Rdg.enc] at h0 h1 h2
  replace hl : tm.length = 38 := hl
  unfold Gives
  cases c1 : wi r.1 0 n <;> cases c2 : isLev a r.2.1 <;> cases c3 : isLev a r.2.2 <;> by_cases c4 : r.2.2 < r.2.1 <;> simp [xf106, hl, h0, h1, h2, t1, t2, t3, c1, c2, c3, c4, h58, h59, firstNZ, rerr1, ha.strip, ha.free, ha.one, Store.empty, Store.new, Store.put, Store.get, look, putL, setR, Store.only, Store.merge, touch, wrote, upTo, isIn, okRec, hits, capsOf, xcaps, stripL, AVal.strip, freeL, AVal.free, fillR, chunks, mkV, List.filter]
end
end Go.Proofs.YtbgjmclpahganaaGreat.Eng

/-
  READINGS, C: what a reading permits; what is common.
-/
namespace Go.Proofs.YtbgjmclpahganaaGreat.Eng
set_option linter.unusedSimpArgs false
set_option linter.unusedVariables false

/-- The sum of the first numbers. -/
def sm (l : List Int) : Nat → Int
  | 0 => 0
  | k + 1 => sm l k + fat l k
theorem sm_in {l : List Int} (h : ∀ i, i < l.length → -10000000 ≤ fat l i ∧ fat l i ≤ 10000000) : ∀ k, k ≤ l.length → -(10000000 * (k : Int)) ≤ sm l k ∧ sm l k ≤ 10000000 * (k : Int)
  | 0, _ => by simp [sm]
  | k + 1, hk => by
    have := sm_in h k (by omega); have := h k (by omega)
    simp only [sm]; omega
theorem fat_take {l : List Int} {i k : Nat} (h : i < k) : fat (l.take k) i = fat l i := by
  unfold fat; rw [List.getD_eq_getElem?_getD, List.getD_eq_getElem?_getD, List.getElem?_take_of_lt h]
/-- What a reading permits. -/
def perm (a : List Kn) (net : List Int) (r : Rdg) : Kn := ((volR a r.2.1).2 - sm net r.1.toNat, (volR a r.2.2).1 - sm net r.1.toNat)
structure RdOk (a : List Kn) (n : Nat) (r : Rdg) : Prop where
  t0 : 0 ≤ r.1
  t1 : r.1 ≤ n
  lo : isLev a r.2.1 = true
  hi : isLev a r.2.2 = true
  le : r.2.1 ≤ r.2.2
theorem rd_ok {a : List Kn} {n : Nat} {r : Rdg} (h : rerr1 a n r = 0) : RdOk a n r := by
  unfold rerr1 at h
  split at h
  · rename_i h1
    simp [wi] at h1
    split at h
    · omega
    · exact ⟨h1.1.1, h1.1.2, h1.2.1, h1.2.2, by omega⟩
  · omega
structure NetOk (l : List Int) : Prop where
  len : l.length ≤ 200
  inr : ∀ i, i < l.length → -10000000 ≤ fat l i ∧ fat l i ≤ 10000000
theorem net_ok {l : List Int} (h : netErr l = 0) : NetOk l := by
  unfold netErr at h
  split at h
  · omega
  · refine ⟨by omega, fun i hi => ?_⟩
    have := fstIx_all _ _ h i (by omega) (by omega)
    unfold nerr at this
    split at this
    · rename_i h1; simpa [wi] using h1
    · omega
theorem vol_in {a : List Kn} (t : Tab a) {x : Int} (h : isLev a x = true) : 0 ≤ (volR a x).1 ∧ (volR a x).1 ≤ (volR a x).2 ∧ (volR a x).2 ≤ 1000000000 := by
  have s := lix_s t h
  obtain ⟨j1, j2, j3, j4⟩ := lix_in t h
  have i1 := t.inr _ j2; have i2 := t.inr (lix a x - 1) (by omega)
  unfold InR at i1 i2
  have lo := s.lo
  have e1 : (volR a x).1 = sLo x (kat a (lix a x - 1)).1 (kat a (lix a x)).1 (kat a (lix a x - 1)).2 (kat a (lix a x)).2 := rfl
  have e2 : (volR a x).2 = sHi x (kat a (lix a x - 1)).1 (kat a (lix a x)).1 (kat a (lix a x - 1)).2 (kat a (lix a x)).2 := rfl
  obtain ⟨k1, k2, k3, k4, k5⟩ := lo
  refine ⟨?_, ?_, ?_⟩ <;> omega
/-- The common range of two. -/
def mm (c r : Kn) : Kn := (if c.1 < r.1 then r.1 else c.1, if r.2 < c.2 then r.2 else c.2)
def comN (l : List Kn) : Nat → Kn
  | 0 => kat l 0
  | k + 1 => mm (comN l k) (kat l k)
def emp (r : Kn) : Bool := decide (r.2 < r.1)

theorem call4 {X : FuncId → Option XFunc} {f : FuncId} {xf : XFunc} {a b c d v : AVal} (hx : X f = some xf) (hf : a.strip.free = true) (hg : b.strip.free = true) (hh : c.strip.free = true) (hi : d.strip.free = true) (hn : 4 ≤ xf.ntmps)
    (h : ∀ tm, tm.length = xf.ntmps → XOpd.eval tm (.t 0) = a.strip → XOpd.eval tm (.t 1) = b.strip → XOpd.eval tm (.t 2) = c.strip → XOpd.eval tm (.t 3) = d.strip → Gives X xf tm v) (hv : v.strip.free = true) (σ : Store) : Run X (.call f) [a, b, c, d] σ = some (.ret, [v.strip], σ) := by
  refine call_pure hx (by simp [stripL, freeL, hf, hg, hh, hi]) (h _ (by simp [stripL]; omega) ?_ ?_ ?_ ?_) hv σ
  all_goals (rw [eval_frame _ _ _ (by simp [stripL])]; simp [stripL])
section
variable {X : FuncId → Option XFunc} (hX : ReadCode X)
include hX
theorem t133 {a : List Kn} {u : AVal} (ha : KL a u) (ha0 : 0 < a.length) (ha1 : a.length ≤ 1000000) {net : List Int} {v : AVal} (hn : DL net v) {l : List Rdg} (i : Nat) (hi : i < l.length) (σ : Store) :
    Run X (.call 105) [.int .i64 i, .iptr [u] 0, .iptr [.list 3 (rds l) none] 0, .iptr [v] 0] σ = some (.ret, [.int .i64 (rerr a net.length l i)], σ) := by
  have t1 := t134 hX ha ha0 ha1 (rat l i) net.length
  have g1 := rds_getElem? (l := l) (i := i) hi
  have nx := hn.xlen
  refine call4 (v := .int .i64 (rerr a net.length l i)) hX.h105 rfl (by simp [AVal.strip, stripL, AVal.free, freeL, ha.strip, ha.free]) (by simp [AVal.strip, stripL, AVal.free, freeL, rds_strip, rds_free]) (by simp [AVal.strip, stripL, AVal.free, freeL, hn.strip, hn.free]) (by decide) (fun tm hl h0 h1 h2 h3 => ?_) rfl σ
  simp only [AVal.strip, stripL, ha.strip, rds_strip, hn.strip] at h0 h1 h2 h3
  replace hl : tm.length = 14 := hl
  simp only [Rdg.enc] at t1 g1
  unfold Gives
  simp [xf105, hl, h0, h1, h2, h3, nx, hi, g1, t1, rerr, ha.one, ha.strip, ha.free, hn.one, hn.strip, hn.free, Rdg.enc, Store.empty, Store.new, Store.put, Store.get, look, putL, setR, Store.only, Store.merge, touch, wrote, upTo, isIn, okRec, hits, capsOf, xcaps, stripL, AVal.strip, freeL, AVal.free, fillR, chunks, mkV, List.filter]
omit hX in
theorem loop135 {net : List Int} (no : NetOk net) {K : Nat} (hK : K ≤ net.length) : ∀ (k i : Nat), i + k = K → ∀ (tm : List AVal) (σ : Store), tm.length = 44 → (0 < K → XOpd.eval tm (.t 15) = .list 1 (ints (net.take K)) none) → XOpd.eval tm (.t 16) = .int .i64 K → XOpd.eval tm (.t 17) = .int .i64 i → XOpd.eval tm (.t 7) = .int .i64 (sm net i) →
    Ends (Run X (.code (.loop xf107l0)) tm σ) (.exit 0) fun tm' σ' => tm'.length = 44 ∧ σ' = σ ∧ XOpd.eval tm' (.t 3) = XOpd.eval tm (.t 3) ∧ XOpd.eval tm' (.t 4) = XOpd.eval tm (.t 4) ∧ XOpd.eval tm' (.t 6) = XOpd.eval tm (.t 6) ∧ XOpd.eval tm' (.t 7) = .int .i64 (sm net K)
  | 0, i, hk, tm, σ, hl, h15, h16, h17, h7 => by
    have e : i = K := by omega
    subst e
    rw [Run_loop]
    simp [xf107l0, hl, h16, h17, h7]
  | k + 1, i, hk, tm, σ, hl, h15, h16, h17, h7 => by
    have hi : i < K := by omega
    have h15 := h15 (by omega)
    have hw : IntKind.i64.wrap ((i : Int) + 1) = ((i + 1 : Nat) : Int) := by have := no.len; rw [wrap_i64] <;> omega
    have hs : IntKind.i64.wrap (sm net i + fat net i) = sm net (i + 1) := by
      have q1 := sm_in no.inr (i + 1) (by omega); have q2 := no.len
      have q3 : sm net (i + 1) = sm net i + fat net i := rfl
      rw [← q3, wrap_i64] <;> omega
    have g1 : (ints (net.take K))[i]? = some (.int .i64 (fat net i)) := by rw [ints_fat (by simp; omega), fat_take hi]
    have ih := loop135 no hK k (i + 1) (by omega)
    rw [Run_loop]
    simp [xf107l0, hl, h15, h16, h17, h7, hi, g1, hw, hs]
    refine Ends.mono (fun tm' σ' hp => ?_) (ih _ σ ?_ ?_ ?_ ?_ ?_)
    · obtain ⟨p1, p2, p3, p4, p5, p6⟩ := hp
      refine ⟨p1, p2, ?_, ?_, ?_, p6⟩
      · rw [p3]; simp [hl]
      · rw [p4]; simp [hl]
      · rw [p5]; simp [hl]
    all_goals simp [hl, h15, h16, h7]
end
end Go.Proofs.YtbgjmclpahganaaGreat.Eng

/-
  READINGS, D: permitted, common.
-/
namespace Go.Proofs.YtbgjmclpahganaaGreat.Eng
set_option linter.unusedSimpArgs false
set_option linter.unusedVariables false

def P101 (l : List Kn) (tm' : List AVal) (σ' : Store) : Prop := tm'.length = 28 ∧ XOpd.eval tm' (.t 3) = .ptr 1 0 ∧ XOpd.eval tm' (.t 2) = .ptr 0 0 ∧ σ'.get 1 = some (.cells [.int .i64 (comN l l.length).1, .int .i64 (comN l l.length).2]) ∧ σ'.get 0 = some (.cells [.int .i64 0, .int .i64 0]) ∧ 2 ≤ σ'.next
section
variable {X : FuncId → Option XFunc} (hX : ReadCode X)
include hX
theorem t135 {a : List Kn} {u : AVal} (ha : KL a u) (t : Tab a) {net : List Int} {v : AVal} (hn : DL net v) (no : NetOk net) {r : Rdg} (ro : RdOk a net.length r) (σ : Store) : Run X (.call 107) [.agg [u], r.enc, v] σ = some (.ret, [(perm a net r).enc], σ) := by
  obtain ⟨tick, lo, hi⟩ := r
  obtain ⟨r0, r1, r2, r3, r4⟩ := ro
  simp only at r0 r1 r2 r3 r4
  obtain ⟨K, rfl⟩ := Int.eq_ofNat_of_zero_le r0
  have hK : K ≤ net.length := by omega
  have t1 := t65 hX.tab ha t r2; have t2 := t65 hX.tab ha t r3
  have b1 := vol_in t r2; have b2 := vol_in t r3
  have t3 := t111 hX.tab (volR a lo).1 (sNum lo (kat a (lix a lo - 1)).1 (kat a (lix a lo - 1)).2 (kat a (lix a lo)).2 % ((kat a (lix a lo)).1 - (kat a (lix a lo - 1)).1)) ((kat a (lix a lo)).1 - (kat a (lix a lo - 1)).1) (by omega) (by omega)
  have e3 : (if 0 < (sNum lo (kat a (lix a lo - 1)).1 (kat a (lix a lo - 1)).2 (kat a (lix a lo)).2 % ((kat a (lix a lo)).1 - (kat a (lix a lo - 1)).1)) then (volR a lo).1 + 1 else (volR a lo).1) = (volR a lo).2 := rfl
  rw [e3] at t3
  have sb := sm_in no.inr K hK; have hl200 := no.len
  have w1 : IntKind.i64.wrap ((volR a lo).2 - sm net K) = (volR a lo).2 - sm net K := by rw [wrap_i64] <;> omega
  have w2 : IntKind.i64.wrap ((volR a hi).1 - sm net K) = (volR a hi).1 - sm net K := by rw [wrap_i64] <;> omega
  refine call3 (v := (perm a net ((K : Int), lo, hi)).enc) hX.h107 (by simp [AVal.strip, stripL, AVal.free, freeL, ha.strip, ha.free]) rfl (by rw [hn.strip]; exact hn.free) (by decide) (fun tm hl h0 h1 h2 => ?_) rfl σ
  simp only [AVal.strip, stripL, ha.strip, Rdg.enc] at h0 h1
  rw [hn.strip] at h2
  replace hl : tm.length = 44 := hl
  have hv : (v = .nils ∧ K = 0) ∨ v = .list 1 (ints net) none := by
    rcases hn with ⟨rfl, rfl⟩ | rfl
    · exact .inl ⟨rfl, by simpa using hK⟩
    · exact .inr rfl
  unfold Gives
  rcases hv with ⟨rfl, rfl⟩ | rfl
  · simp [xf107, hl, h0, h1, h2, ha.strip, ha.free, ha.one, Store.empty, Store.new, Store.put, Store.get, look, putL, setR, Store.only, Store.merge, touch, wrote, upTo, isIn, okRec, hits, capsOf, xcaps, stripL, AVal.strip, freeL, AVal.free, fillR, chunks, mkV, List.filter]
    generalize hR : Run X (.code (.loop xf107l0)) _ _ = R
    have hE : Ends R (.exit 0) (fun tm' σ' => tm'.length = 44 ∧ σ' = ⟨[(0, .cells [u]), (1, .cells [.int .i64 0, .int .i64 lo, .int .i64 hi]), (2, .cells [.int .i64 0, .int .i64 0])], 3⟩ ∧ XOpd.eval tm' (.t 3) = .ptr 0 0 ∧ XOpd.eval tm' (.t 4) = .ptr 1 0 ∧ XOpd.eval tm' (.t 6) = .ptr 2 0 ∧ XOpd.eval tm' (.t 7) = .int .i64 (sm net 0)) := by
      rw [← hR]
      refine Ends.mono (fun tm' σ' hp => ?_) (loop135 no hK 0 0 rfl _ _ ?_ ?_ ?_ ?_ ?_)
      · obtain ⟨p1, p2, p3, p4, p5, p6⟩ := hp
        refine ⟨p1, p2, ?_, ?_, ?_, p6⟩
        · rw [p3]; simp [hl]
        · rw [p4]; simp [hl]
        · rw [p5]; simp [hl]
      all_goals simp [hl, sm]
    obtain ⟨tm', σ', rfl, hl', rfl, k3, k4, k6, k7⟩ := hE
    simp [hl', k3, k4, k6, k7, t1, t2, t3, w1, w2, perm, Kn.enc, ha.strip, ha.free, ha.one, Store.empty, Store.new, Store.put, Store.get, look, putL, setR, Store.only, Store.merge, touch, wrote, upTo, isIn, okRec, hits, capsOf, xcaps, stripL, AVal.strip, freeL, AVal.free, fillR, chunks, mkV, List.filter]
  · simp [xf107, hl, h0, h1, h2, hK, ha.strip, ha.free, ha.one, Store.empty, Store.new, Store.put, Store.get, look, putL, setR, Store.only, Store.merge, touch, wrote, upTo, isIn, okRec, hits, capsOf, xcaps, stripL, AVal.strip, freeL, AVal.free, fillR, chunks, mkV, List.filter]
    generalize hR : Run X (.code (.loop xf107l0)) _ _ = R
    have hE : Ends R (.exit 0) (fun tm' σ' => tm'.length = 44 ∧ σ' = ⟨[(0, .cells [u]), (1, .cells [.int .i64 (K : Int), .int .i64 lo, .int .i64 hi]), (2, .cells [.int .i64 0, .int .i64 0])], 3⟩ ∧ XOpd.eval tm' (.t 3) = .ptr 0 0 ∧ XOpd.eval tm' (.t 4) = .ptr 1 0 ∧ XOpd.eval tm' (.t 6) = .ptr 2 0 ∧ XOpd.eval tm' (.t 7) = .int .i64 (sm net K)) := by
      rw [← hR]
      refine Ends.mono (fun tm' σ' hp => ?_) (loop135 no hK K 0 (by omega) _ _ ?_ ?_ ?_ ?_ ?_)
      · obtain ⟨p1, p2, p3, p4, p5, p6⟩ := hp
        refine ⟨p1, p2, ?_, ?_, ?_, p6⟩
        · rw [p3]; simp [hl]
        · rw [p4]; simp [hl]
        · rw [p5]; simp [hl]
      all_goals simp [hl, sm, hK, ints_take]
    obtain ⟨tm', σ', rfl, hl', rfl, k3, k4, k6, k7⟩ := hE
    simp [hl', k3, k4, k6, k7, t1, t2, t3, w1, w2, perm, Kn.enc, ha.strip, ha.free, ha.one, Store.empty, Store.new, Store.put, Store.get, look, putL, setR, Store.only, Store.merge, touch, wrote, upTo, isIn, okRec, hits, capsOf, xcaps, stripL, AVal.strip, freeL, AVal.free, fillR, chunks, mkV, List.filter]
omit hX in
theorem loop101 {l : List Kn} (hn : l.length ≤ 1000000) : ∀ (k i : Nat), i + k = l.length → ∀ (tm : List AVal) (σ : Store), tm.length = 28 → XOpd.eval tm (.t 9) = .list 2 (kns l) none → XOpd.eval tm (.t 10) = .int .i64 l.length → XOpd.eval tm (.t 11) = .int .i64 i → XOpd.eval tm (.t 3) = .ptr 1 0 → XOpd.eval tm (.t 2) = .ptr 0 0 → σ.get 1 = some (.cells [.int .i64 (comN l i).1, .int .i64 (comN l i).2]) → σ.get 0 = some (.cells [.int .i64 0, .int .i64 0]) → 2 ≤ σ.next →
    Ends (Run X (.code (.loop xf62l0)) tm σ) (.exit 0) (P101 l)
  | 0, i, hk, tm, σ, hl, h9, h10, h11, h3, h2, g1, g0, hx => by
    have e : i = l.length := by omega
    subst e
    rw [Run_loop]
    simp [xf62l0, hl, h9, h10, h11]
    exact ⟨by simp [hl], by simp [hl, h3], by simp [hl, h2], g1, g0, hx⟩
  | k + 1, i, hk, tm, σ, hl, h9, h10, h11, h3, h2, g1, g0, hx => by
    have hi : i < l.length := by omega
    have hw : IntKind.i64.wrap ((i : Int) + 1) = ((i + 1 : Nat) : Int) := by rw [wrap_i64] <;> omega
    have q1 := kns_getElem? (l := l) (i := i) hi
    have n1 : ¬ 1 = σ.next := by omega
    have n0 : ¬ 0 = σ.next := by omega
    have m1 : ¬ σ.next = 1 := by omega
    have m0 : ¬ σ.next = 0 := by omega
    have ih := loop101 hn k (i + 1) (by omega)
    have e1 : (comN l (i + 1)).1 = if (comN l i).1 < (kat l i).1 then (kat l i).1 else (comN l i).1 := rfl
    have e2 : (comN l (i + 1)).2 = if (kat l i).2 < (comN l i).2 then (kat l i).2 else (comN l i).2 := rfl
    rw [Run_loop]
    simp [xf62l0, hl, h9, h10, h11, h3, g1, hi, q1, hw, n1, n0, m1, m0, Kn.enc, put_next, new_next, Store.get_new, Store.get_put, put_get, setR, only_get, merge_get', only_next, merge_next, upTo_self, upTo_one, merge_only, touch, wrote, isIn, okRec, hits, capsOf, xcaps, stripL, AVal.strip, freeL, AVal.free, fillR, chunks, mkV]
    refine ih _ _ ?_ ?_ ?_ ?_ ?_ ?_ ?_ ?_ ?_
    all_goals simp [hl, h9, h10, h11, h3, h2, g1, g0, n1, n0, m1, m0, e1, e2, put_next, new_next, Store.get_new, Store.get_put, put_get, setR, only_get, merge_get', only_next, merge_next, upTo_self, upTo_one, merge_only, touch, wrote, isIn, okRec, hits, capsOf, xcaps, stripL, AVal.strip, freeL, AVal.free, fillR, chunks, mkV]
    all_goals omega
theorem t101 {l : List Kn} {v : AVal} (hv : v.strip = .list 2 (kns l) none) (h0 : 0 < l.length) (hn : l.length ≤ 1000000) (σ : Store) : Run X (.call 62) [v] σ = some (.ret, [(comN l l.length).enc], σ) := by
  refine call1 (v := (comN l l.length).enc) hX.h62 (by rw [hv]; simp [AVal.free, kns_free]) (by decide) (fun tm hl a0 => ?_) rfl σ
  rw [hv] at a0
  replace hl : tm.length = 28 := hl
  have q1 := kns_getElem? (l := l) (i := 0) h0
  unfold Gives
  simp [xf62, hl, a0, q1, h0, Kn.enc, Store.empty, Store.new, Store.put, Store.get, look, putL, setR, Store.only, Store.merge, touch, wrote, upTo, isIn, okRec, hits, capsOf, xcaps, stripL, AVal.strip, freeL, AVal.free, fillR, chunks, mkV, List.filter]
  generalize hR : Run X (.code (.loop xf62l0)) _ _ = R
  have hE : Ends R (.exit 0) (P101 l) := by
    rw [← hR]
    refine loop101 hn l.length 0 (by omega) _ _ ?_ ?_ ?_ ?_ ?_ ?_ ?_ ?_ ?_
    all_goals simp [hl, a0, comN, Store.empty, Store.new, Store.put, Store.get, look, putL, setR, Store.only, Store.merge, touch, wrote, upTo, isIn, okRec, hits, capsOf, xcaps, stripL, AVal.strip, freeL, AVal.free, fillR, chunks, mkV, List.filter]
  obtain ⟨tm', σ', rfl, hl', k3, k2, g1, g0, hx⟩ := hE
  simp [hl', k3, k2, g1, g0, put_next, new_next, Store.get_new, Store.get_put, put_get, setR, only_get, merge_get', only_next, merge_next, upTo_self, upTo_one, merge_only, touch, wrote, isIn, okRec, hits, capsOf, xcaps, stripL, AVal.strip, freeL, AVal.free, fillR, chunks, mkV]
theorem t102 (r : Kn) (σ : Store) : Run X (.call 63) [r.enc] σ = some (.ret, [.bool (emp r)], σ) := by
  refine call1 (v := .bool (emp r)) hX.h63 rfl (by decide) (fun tm hl a0 => ?_) rfl σ
  simp only [AVal.strip, stripL, Kn.enc] at a0
  replace hl : tm.length = 8 := hl
  unfold Gives
  simp [xf63, hl, a0, emp, Store.empty, Store.new, Store.put, Store.get, look, putL, setR, Store.only, Store.merge, touch, wrote, upTo, isIn, okRec, hits, capsOf, xcaps, stripL, AVal.strip, freeL, AVal.free, fillR, chunks, mkV, List.filter]
theorem t50 {l : List Int} {v : AVal} (h : DL l v) (hn : l.length ≤ 1000000) : ∃ u, DL l u ∧ ∀ σ, Run X (.call 32) [v] σ = some (.ret, [u], σ) := by
  refine ⟨.list 1 (ints l) none, .inr rfl, fun σ => ?_⟩
  have hs : (AVal.list 1 (ints l) (some 0)).strip = .list 1 (ints l) none := by simp [AVal.strip, ints_strip]
  have := call1 (X := X) (a := v) (v := .list 1 (ints l) (some 0)) hX.h32 (by rw [h.strip]; exact h.free) (by decide) (fun tm hl h1 => ?_) (by rw [hs]; simp [AVal.free, ints_free]) σ
  · rwa [hs] at this
  rw [h.strip] at h1
  replace hl : tm.length = 6 := hl
  have ho := ints_ones l
  have e1 : l.length ≤ 1000000000000 := by omega
  have e2 : l.length * 8 ≤ 1000000000000 := by omega
  unfold Gives
  rcases h with ⟨rfl, rfl⟩ | rfl
  · simp [xf32, hl, h1, xappend, AVal.isSlice, ints, Store.empty, Store.new, Store.put, Store.get, look, putL, setR, Store.only, Store.merge, touch, wrote, upTo, isIn, okRec, hits, capsOf, xcaps, stripL, AVal.strip, freeL, AVal.free, fillR, chunks, mkV, List.filter]
  · cases l with
    | nil => simp [xf32, hl, h1, xappend, AVal.isSlice, ints, ones, Store.empty, Store.new, Store.put, Store.get, look, putL, setR, Store.only, Store.merge, touch, wrote, upTo, isIn, okRec, hits, capsOf, xcaps, stripL, AVal.strip, freeL, AVal.free, fillR, chunks, mkV, List.filter]
    | cons k l =>
      simp only [ints, List.map_cons] at ho
      simp only [List.length_cons] at e1 e2
      simp [xf32, hl, h1, xappend, AVal.isSlice, ints, ho, e1, e2, Store.empty, Store.new, Store.put, Store.get, look, putL, setR, Store.only, Store.merge, touch, wrote, upTo, isIn, okRec, hits, capsOf, xcaps, stripL, AVal.strip, freeL, AVal.free, fillR, chunks, mkV, List.filter]
theorem t51 {l : List Rdg} {v : AVal} (h : RL l v) (hn : l.length ≤ 1000000) : ∃ u, RL l u ∧ ∀ σ, Run X (.call 33) [v] σ = some (.ret, [u], σ) := by
  refine ⟨.list 3 (rds l) none, .inr rfl, fun σ => ?_⟩
  have hs : (AVal.list 3 (rds l) (some 0)).strip = .list 3 (rds l) none := by simp [AVal.strip, rds_strip]
  have := call1 (X := X) (a := v) (v := .list 3 (rds l) (some 0)) hX.h33 (by rw [h.strip]; exact h.free) (by decide) (fun tm hl h1 => ?_) (by rw [hs]; simp [AVal.free, rds_free]) σ
  · rwa [hs] at this
  rw [h.strip] at h1
  replace hl : tm.length = 6 := hl
  have ho := rds_ones l
  have e1 : l.length ≤ 1000000000000 := by omega
  have e2 : l.length * 24 ≤ 1000000000000 := by omega
  unfold Gives
  rcases h with ⟨rfl, rfl⟩ | rfl
  · simp [xf33, hl, h1, xappend, AVal.isSlice, rds, Store.empty, Store.new, Store.put, Store.get, look, putL, setR, Store.only, Store.merge, touch, wrote, upTo, isIn, okRec, hits, capsOf, xcaps, stripL, AVal.strip, freeL, AVal.free, fillR, chunks, mkV, List.filter]
  · cases l with
    | nil => simp [xf33, hl, h1, xappend, AVal.isSlice, rds, ones, Store.empty, Store.new, Store.put, Store.get, look, putL, setR, Store.only, Store.merge, touch, wrote, upTo, isIn, okRec, hits, capsOf, xcaps, stripL, AVal.strip, freeL, AVal.free, fillR, chunks, mkV, List.filter]
    | cons k l =>
      simp only [rds, List.map_cons] at ho
      simp only [List.length_cons] at e1 e2
      simp [xf33, hl, h1, xappend, AVal.isSlice, rds, ho, e1, e2, Store.empty, Store.new, Store.put, Store.get, look, putL, setR, Store.only, Store.merge, touch, wrote, upTo, isIn, okRec, hits, capsOf, xcaps, stripL, AVal.strip, freeL, AVal.free, fillR, chunks, mkV, List.filter]
end
end Go.Proofs.YtbgjmclpahganaaGreat.Eng

/-
  READINGS, E: what all readings permit.
-/
namespace Go.Proofs.YtbgjmclpahganaaGreat.Eng
set_option linter.unusedSimpArgs false
set_option linter.unusedVariables false

/-- Ranges in a list that grows. -/
def OutK (σ : Store) (m0 : Nat) (xs : List Kn) (v : AVal) : Prop := (v = .nils ∧ xs = []) ∨ ∃ j, m0 ≤ j ∧ j < σ.next ∧ v = .list 2 (kns xs) (some j) ∧ σ.get j = some (.tok 48 2 xs.length)
theorem OutK.strip {σ : Store} {m0 : Nat} {xs : List Kn} {v : AVal} (h : OutK σ m0 xs v) : KL xs v.strip := by
  rcases h with ⟨rfl, rfl⟩ | ⟨j, _, _, rfl, _⟩
  · exact .inl ⟨rfl, rfl⟩
  · exact .inr (by simp [AVal.strip, kns_strip])
theorem OutK.later {σ τ : Store} {m0 : Nat} {xs : List Kn} {v : AVal} (h : OutK σ m0 xs v) (hg : ∀ m, m < σ.next → τ.get m = σ.get m) (hn : σ.next ≤ τ.next) : OutK τ m0 xs v := by
  rcases h with h | ⟨j, h1, h2, h3, h4⟩
  · exact .inl h
  · exact .inr ⟨j, h1, by omega, h3, by rw [hg j h2]; exact h4⟩
theorem app_stepK {σ : Store} {m0 : Nat} {xs : List Kn} {v : AVal} {x : Kn} (h : OutK σ m0 xs v) (hn : m0 ≤ σ.next) (hl : xs.length ≤ 1000000) :
    ∃ v' σ', xappend (σ.new (.tok 48 2 1)) 48 2 16 v (.list 2 [.agg [.int .i64 x.1, .int .i64 x.2]] (some σ.next)) = some (v', σ') ∧ OutK σ' m0 (xs ++ [x]) v' ∧ (∀ m, m < m0 → σ'.get m = σ.get m) ∧ m0 ≤ σ'.next := by
  rcases h with ⟨rfl, rfl⟩ | ⟨j, h1, h2, rfl, h3⟩
  · refine ⟨.list 2 (kns [x]) (some (σ.next + 1)), (σ.new (.tok 48 2 1)).new (.tok 48 2 1), by simp [xappend, ones, AVal.one, kns, Kn.enc, Store.new], .inr ⟨σ.next + 1, by omega, by simp [Store.new], rfl, ?_⟩, fun m hm => ?_, by simp [Store.new]; omega⟩
    · rw [Store.get_new]; exact Mem.put_self _ _ _
    · rw [Store.get_new, Mem.put_ne _ (by simp [Store.new]; omega), Store.get_new, Mem.put_ne _ (by omega)]
  · have hg : (σ.new (.tok 48 2 1)).get j = some (.tok 48 2 xs.length) := by rw [Store.get_new, Mem.put_ne _ (by omega)]; exact h3
    have e1 : (xs.length + 1) * 16 ≤ 1000000000000 := by omega
    have e2 : xs.length + 1 ≤ 1000000000000 := by omega
    refine ⟨.list 2 (kns (xs ++ [x])) (some j), (σ.new (.tok 48 2 1)).put j (.tok 48 2 (xs.length + 1)), by simp [xappend, ones, AVal.one, hg, kns, Kn.enc, e1, e2], .inr ⟨j, h1, by simp [Store.new, Store.put]; omega, rfl, ?_⟩, fun m hm => ?_, by simp [Store.new, Store.put]; omega⟩
    · rw [Store.get_put, Mem.put_self]; simp
    · rw [Store.get_put, Mem.put_ne _ (by omega), Store.get_new, Mem.put_ne _ (by omega)]
def perms (a : List Kn) (net : List Int) (l : List Rdg) : List Kn := l.map (perm a net)
@[simp] theorem perms_len (a : List Kn) (net : List Int) (l : List Rdg) : (perms a net l).length = l.length := by simp [perms]
theorem perms_kat {a : List Kn} {net : List Int} {l : List Rdg} {i : Nat} (h : i < l.length) : kat (perms a net l) i = perm a net (rat l i) := by
  unfold kat rat perms
  rw [List.getD_eq_getElem?_getD, List.getD_eq_getElem?_getD, List.getElem?_map, List.getElem?_eq_getElem h]; rfl
theorem perms_take {a : List Kn} {net : List Int} {l : List Rdg} {i : Nat} (h : i < l.length) : (perms a net l).take i ++ [perm a net (rat l i)] = (perms a net l).take (i + 1) := by
  rw [← perms_kat h, ← kat_get (by simpa using h)]
  rw [List.take_append_getElem]
theorem rds_ok {a : List Kn} {n : Nat} {l : List Rdg} (h : rdsErr a n l = 0) : 0 < l.length ∧ l.length ≤ 10 ∧ ∀ i, i < l.length → RdOk a n (rat l i) := by
  unfold rdsErr at h
  split at h
  · omega
  · split at h
    · omega
    · exact ⟨by omega, by omega, fun i hi => rd_ok (fstIx_all _ _ h i (by omega) (by omega))⟩
def restErr (a : List Kn) (net : List Int) (l : List Rdg) : Int := if netErr net ≠ 0 then netErr net else rdsErr a net.length l
theorem reads_ok {a : List Kn} {net : List Int} {l : List Rdg} (h : allErr a net l = 0) : Tab a ∧ NetOk net ∧ 0 < l.length ∧ l.length ≤ 10 ∧ ∀ i, i < l.length → RdOk a net.length (rat l i) := by
  unfold allErr at h
  split at h
  · omega
  · rename_i h1
    split at h
    · omega
    · rename_i h2
      have h1 : (tabErr a).2 = 0 := by simpa using h1
      have h2 : netErr net = 0 := by simpa using h2
      exact ⟨tab_of h1, net_ok h2, rds_ok h⟩
theorem rest_eq {a : List Kn} {net : List Int} {l : List Rdg} : firstNZ [if decide ((200 : Int) < net.length) then 8 else 0, (fstIx (nerr net) net.length 0).2, if decide ((l.length : Int) = 0) then 10 else 0, if decide ((10 : Int) < l.length) then 8 else 0, (fstIx (rerr a net.length l) l.length 0).2] = restErr a net l := by
  unfold restErr netErr rdsErr
  by_cases c1 : 200 < net.length
  · have : (200 : Int) < net.length := by omega
    simp [firstNZ, c1, this]
  · have c1' : ¬ (200 : Int) < net.length := by omega
    by_cases c2 : (fstIx (nerr net) net.length 0).2 = 0
    · by_cases c3 : l.length = 0
      · have : (l.length : Int) = 0 := by omega
        simp [firstNZ, c1, c1', c2, c3, this]
      · have c3' : ¬ (l.length : Int) = 0 := by omega
        by_cases c4 : 10 < l.length
        · have : (10 : Int) < l.length := by omega
          simp [firstNZ, c1, c1', c2, c3, c3', c4, this]
        · have c4' : ¬ (10 : Int) < l.length := by omega
          by_cases c5 : (fstIx (rerr a net.length l) l.length 0).2 = 0
          · simp only [firstNZ, c1, c1', c2, c3, c3', c4, c4', c5, decide_false, Bool.false_eq_true, if_false, if_true, ne_eq, not_true_eq_false]
          · simp only [firstNZ, c1, c1', c2, c3, c3', c4, c4', c5, decide_false, Bool.false_eq_true, if_false, if_true, ne_eq, not_true_eq_false]
    · simp only [firstNZ, c1, c1', c2, decide_false, Bool.false_eq_true, if_false, if_true, ne_eq, not_false_eq_true]

def P100 (a : List Kn) (net : List Int) (l : List Rdg) (tm' : List AVal) (σ' : Store) : Prop := tm'.length = 61 ∧ KL (perms a net l) (XOpd.eval tm' (.t 10)).strip
section
variable {X : FuncId → Option XFunc} (hX : ReadCode X)
include hX
set_option maxHeartbeats 1000000 in
theorem loop100 {a : List Kn} {u : AVal} (ha : KL a u) (t : Tab a) {net : List Int} {v : AVal} (hn : DL net v) (no : NetOk net) {l : List Rdg} (hr : ∀ i, i < l.length → RdOk a net.length (rat l i)) (hl1 : l.length ≤ 10) : ∀ (k i : Nat), i + k = l.length → ∀ (tm : List AVal) (σ : Store), tm.length = 61 → XOpd.eval tm (.t 46) = .list 3 (rds l) none → XOpd.eval tm (.t 47) = .int .i64 l.length → XOpd.eval tm (.t 48) = .int .i64 i → XOpd.eval tm (.t 4) = .ptr 1 0 → XOpd.eval tm (.t 8) = .ptr 3 0 → OutK σ 4 ((perms a net l).take i) (XOpd.eval tm (.t 10)) → σ.get 1 = some (.ro [v]) → σ.get 3 = some (.ro [u]) → 4 ≤ σ.next →
    Ends (Run X (.code (.loop xf61l0)) tm σ) (.exit 0) (P100 a net l)
  | 0, i, hk, tm, σ, hl, h46, h47, h48, h4, h8, h10, g1, g3, hx => by
    have e : i = l.length := by omega
    subst e
    rw [Run_loop]
    have := h10.strip
    rw [List.take_of_length_le (by simp)] at this
    simp [xf61l0, hl, h46, h47, h48]
    exact ⟨by simp [hl], by simpa [hl] using this⟩
  | k + 1, i, hk, tm, σ, hl, h46, h47, h48, h4, h8, h10, g1, g3, hx => by
    have hi : i < l.length := by omega
    have hw : IntKind.i64.wrap ((i : Int) + 1) = ((i + 1 : Nat) : Int) := by rw [wrap_i64] <;> omega
    have q1 := rds_getElem? (l := l) (i := i) hi
    have t135 := t135 hX ha t hn no (hr i hi)
    have n1 : ¬ 1 = σ.next := by omega
    have n3 : ¬ 3 = σ.next := by omega
    have m1 : ¬ σ.next = 1 := by omega
    have m3 : ¬ σ.next = 3 := by omega
    have hO : OutK ((σ.new (.cells [.int .i64 0, .int .i64 0, .int .i64 0])).put σ.next (.cells [.int .i64 (rat l i).1, .int .i64 (rat l i).2.1, .int .i64 (rat l i).2.2])) 4 ((perms a net l).take i) (XOpd.eval tm (.t 10)) := h10.later (fun m hm => by rw [Store.get_put, Mem.put_ne _ (by omega), Store.get_new, Mem.put_ne _ (by omega)]) (by simp [Store.new, Store.put])
    obtain ⟨v', σ', e1, e2, e3, e4⟩ := app_stepK (x := perm a net (rat l i)) hO (by simp [Store.new, Store.put]; omega) (by simp; omega)
    have ih := loop100 ha t hn no hr hl1 k (i + 1) (by omega)
    simp only [Rdg.enc, Kn.enc] at t135 q1
    simp only [put_next, new_next] at e1
    rw [Run_loop]
    simp [xf61l0, hl, h46, h47, h48, h4, h8, g1, g3, hi, q1, hw, n1, n3, m1, m3, t135, e1, Rdg.enc, Kn.enc, hn.one, hn.strip, hn.free, ha.one, ha.strip, ha.free, put_next, new_next, Store.get_new, Store.get_put, put_get, setR, only_get, merge_get', only_next, merge_next, upTo_self, upTo_one, merge_only, touch, wrote, isIn, okRec, hits, capsOf, xcaps, stripL, AVal.strip, freeL, AVal.free, fillR, chunks, mkV]
    refine ih _ _ ?_ ?_ ?_ ?_ ?_ ?_ ?_ ?_ ?_ ?_
    · simp [hl]
    · simp [hl, h46]
    · simp [hl, h47]
    · simp [hl]
    · simp [hl, h4]
    · simp [hl, h8]
    · rw [← perms_take hi]; simp [hl]; exact e2
    · rw [e3 1 (by omega)]; simp [g1, n1, m1, put_next, new_next, Store.get_new, Store.get_put, put_get, setR, only_get, merge_get', only_next, merge_next, upTo_self, upTo_one, merge_only, touch, wrote, isIn, okRec, hits, capsOf, xcaps, stripL, AVal.strip, freeL, AVal.free, fillR, chunks, mkV]
    · rw [e3 3 (by omega)]; simp [g3, n3, m3, put_next, new_next, Store.get_new, Store.get_put, put_get, setR, only_get, merge_get', only_next, merge_next, upTo_self, upTo_one, merge_only, touch, wrote, isIn, okRec, hits, capsOf, xcaps, stripL, AVal.strip, freeL, AVal.free, fillR, chunks, mkV]
    · exact e4
theorem errs100 {a : List Kn} {u : AVal} (ha : KL a u) (ha0 : 0 < a.length) (ha1 : a.length ≤ 1000000) {net : List Int} {v : AVal} (hn : DL net v) (hn1 : net.length ≤ 1000000) {l : List Rdg} {w : AVal} (h : RL l w) (hl1 : l.length ≤ 1000000) (tok : Option Nat) (σ : Store) :
    Run X (.call 77) [.list 1 [.fn 113 [] [.iptr [.bool (decide ((200 : Int) < net.length))] 0, .iptr [.int .i64 8] 0], .fn 114 [] [.iptr [.int .i64 net.length] 0, .iptr [.fn 103 [] [.iptr [v] 0]] 0], .fn 113 [] [.iptr [.bool (decide ((l.length : Int) = 0))] 0, .iptr [.int .i64 10] 0], .fn 113 [] [.iptr [.bool (decide ((10 : Int) < l.length))] 0, .iptr [.int .i64 8] 0], .fn 114 [] [.iptr [.int .i64 l.length] 0, .iptr [.fn 105 [] [.iptr [u] 0, .iptr [w] 0, .iptr [v] 0]] 0]] tok] σ = some (.ret, [.int .i64 (restErr a net l)], σ) := by
  have hS := hX.tab.sea
  rw [← rest_eq]
  refine sea58 hS ⟨rfl, by simp [freeL, AVal.free, hn.free, ha.free, h.free], fun i h1 h2 => ?_⟩ (by simp) tok σ
  have hi : i = 0 ∨ i = 1 ∨ i = 2 ∨ i = 3 ∨ i = 4 := by simp at h1; omega
  rcases hi with rfl | rfl | rfl | rfl | rfl
  · exact ⟨_, _, _, rfl, fun σ => sea106 hS _ 8 σ⟩
  · refine ⟨_, _, _, rfl, fun σ => sea130 hS (g := 103) (a := []) (b := [.iptr [v] 0]) (e := nerr net) (n := net.length) (fun i hi σ => ?_) (by omega) rfl (by simp [freeL, AVal.free, hn.free]) σ⟩
    have := hn.list (by omega)
    subst this
    exact t131 hX i hi σ
  · exact ⟨_, _, _, rfl, fun σ => sea106 hS _ 10 σ⟩
  · exact ⟨_, _, _, rfl, fun σ => sea106 hS _ 8 σ⟩
  · refine ⟨_, _, _, rfl, fun σ => sea130 hS (g := 105) (a := []) (b := [.iptr [u] 0, .iptr [w] 0, .iptr [v] 0]) (e := rerr a net.length l) (n := l.length) (fun i hi σ => ?_) (by omega) rfl (by simp [freeL, AVal.free, hn.free, ha.free, h.free]) σ⟩
    have := h.list (by omega)
    subst this
    exact t133 hX ha ha0 ha1 hn i hi σ
set_option maxHeartbeats 1000000 in
theorem t100_err {a : List Kn} {u : AVal} (ha : KL a u) (ha1 : a.length ≤ 1000000) {net : List Int} {v : AVal} (hn : DL net v) (hn1 : net.length ≤ 1000000) {l : List Rdg} {w : AVal} (h : RL l w) (hl1 : l.length ≤ 1000000) (he : allErr a net l ≠ 0) (σ : Store) :
    Run X (.call 61) [.agg [u], v, w] σ = some (.ret, [.tup [.nils, .int .i64 (allErr a net l)]], σ) := by
  have hT := hX.tab
  have t63 := t63 hT ha ha1
  have h59 := sea59 hT.sea
  have s1 := sea93 hT.sea (g := 103) (a := []) (b := [.iptr [v] 0]) (n := net.length) rfl (by simp [freeL, AVal.free, hn.free])
  have s2 := sea93 hT.sea (g := 105) (a := []) (b := [.iptr [u] 0, .iptr [w] 0, .iptr [v] 0]) (n := l.length) rfl (by simp [freeL, AVal.free, hn.free, ha.free, h.free])
  refine call3 (v := .tup [.nils, .int .i64 (allErr a net l)]) hX.h61 (by simp [AVal.strip, stripL, AVal.free, freeL, ha.strip, ha.free]) (by rw [hn.strip]; exact hn.free) (by rw [h.strip]; exact h.free) (by decide) (fun tm hl h0 h1 h2 => ?_) rfl σ
  simp only [AVal.strip, stripL, ha.strip] at h0
  rw [hn.strip] at h1
  rw [h.strip] at h2
  replace hl : tm.length = 61 := hl
  have nx := hn.xlen; have lx := h.xlen
  unfold Gives
  by_cases c : (tabErr a).2 = 0
  · have e1 : allErr a net l = restErr a net l := by unfold allErr restErr; rw [if_neg (by simpa using c)]
    have h58 := errs100 hX ha (by have := tabErr_len c; omega) ha1 hn hn1 h hl1
    rw [e1] at he ⊢
    rcases hn with ⟨rfl, rfl⟩ | rfl <;> rcases h with ⟨rfl, rfl⟩ | rfl <;> (try simp at h58) <;> (try simp at s1) <;> (try simp at s2) <;> simp [xf61, hl, h0, h1, h2, t63, h59, s1, s2, h58, c, he, xresult, xrets, ha.strip, ha.free, ha.one, ints_free, ints_strip, rds_free, rds_strip, Store.empty, Store.new, Store.put, Store.get, look, putL, setR, Store.only, Store.merge, touch, wrote, upTo, isIn, okRec, hits, capsOf, xcaps, stripL, AVal.strip, freeL, AVal.free, fillR, chunks, mkV, List.filter]
  · have e1 : allErr a net l = (tabErr a).2 := by unfold allErr; rw [if_pos (by simpa using c)]
    rw [e1]
    rcases hn with ⟨rfl, _⟩ | rfl <;> rcases h with ⟨rfl, _⟩ | rfl <;> simp [xf61, hl, h0, h1, h2, t63, c, xresult, xrets, ha.strip, ha.free, ha.one, ints_free, ints_strip, rds_free, rds_strip, -xlen_nils, -xlen_list, Store.empty, Store.new, Store.put, Store.get, look, putL, setR, Store.only, Store.merge, touch, wrote, upTo, isIn, okRec, hits, capsOf, xcaps, stripL, AVal.strip, freeL, AVal.free, fillR, chunks, mkV, List.filter]
set_option maxHeartbeats 1000000 in
theorem t100 {a : List Kn} {u : AVal} (ha : KL a u) (ha1 : a.length ≤ 1000000) {net : List Int} {v : AVal} (hn : DL net v) (hn1 : net.length ≤ 1000000) {l : List Rdg} {w : AVal} (h : RL l w) (hl1 : l.length ≤ 1000000) (he : allErr a net l = 0) (σ : Store) :
    Run X (.call 61) [.agg [u], v, w] σ = some (.ret, [.tup [.list 2 (kns (perms a net l)) none, .int .i64 0]], σ) := by
  have hT := hX.tab
  obtain ⟨t, no, l0, l10, ro⟩ := reads_ok he
  have t63 := t63 hT ha ha1
  have h59 := sea59 hT.sea
  have s1 := sea93 hT.sea (g := 103) (a := []) (b := [.iptr [v] 0]) (n := net.length) rfl (by simp [freeL, AVal.free, hn.free])
  have s2 := sea93 hT.sea (g := 105) (a := []) (b := [.iptr [u] 0, .iptr [w] 0, .iptr [v] 0]) (n := l.length) rfl (by simp [freeL, AVal.free, hn.free, ha.free, h.free])
  have nx := hn.xlen; have lx := h.xlen
  have h58 := errs100 hX ha (by have := t.two; omega) ha1 hn hn1 h hl1
  have c := t.err
  have hre : restErr a net l = 0 := by
    have e1 : allErr a net l = restErr a net l := by unfold allErr restErr; rw [if_neg (by simpa using c)]
    rw [← e1]; exact he
  have hw := h.list l0
  subst hw
  have := call3E (X := X) (f := 61) (a := .agg [u]) (b := v) (c := .list 3 (rds l) none) (Φ := fun r => r = .tup [.list 2 (kns (perms a net l)) none, .int .i64 0]) hX.h61 (by simp [AVal.strip, stripL, AVal.free, freeL, ha.strip, ha.free]) (by rw [hn.strip]; exact hn.free) (by rw [h.strip]; exact h.free) (by decide) (fun tm hl h0 h1 h2 => ?_)
  · obtain ⟨r, hr, hrun⟩ := this
    rw [hrun, hr]
  simp only [AVal.strip, stripL, ha.strip, rds_strip] at h0 h2
  rw [hn.strip] at h1
  replace hl : tm.length = 61 := hl
  have hΦ : ∀ x : AVal, KL (perms a net l) x.strip → Told (fun r => r = .tup [.list 2 (kns (perms a net l)) none, .int .i64 0]) (.tup [x, .int .i64 0]) := fun x hx => by
    have := hx.list (by simpa using l0)
    unfold Told
    simp [AVal.strip, stripL, this, AVal.free, freeL, kns_free]
  generalize Told (fun r => r = .tup [.list 2 (kns (perms a net l)) none, .int .i64 0]) = Φ at hΦ ⊢
  rw [hre] at h58
  rw [c] at t63
  unfold GivesE
  have hn0 := hn
  rcases hn with ⟨hv, _⟩ | hv
  all_goals
    subst hv
    (try simp at h58)
    simp [-xlen_nils, xf61, hl, h0, h1, h2, nx, t63, h59, s1, s2, h58, c, ha.strip, ha.free, ha.one, ints_free, ints_strip, rds_free, rds_strip, Store.empty, Store.new, Store.put, Store.get, look, putL, setR, Store.only, Store.merge, touch, wrote, upTo, isIn, okRec, hits, capsOf, xcaps, stripL, AVal.strip, freeL, AVal.free, fillR, chunks, mkV, List.filter]
    generalize hR : Run X (.code (.loop xf61l0)) _ _ = R
    have hE : Ends R (.exit 0) (P100 a net l) := by
      rw [← hR]
      refine loop100 hX ha t hn0 no ro l10 l.length 0 (by omega) _ _ ?_ ?_ ?_ ?_ ?_ ?_ ?_ ?_ ?_ ?_
      all_goals simp [hl, h0, h1, h2, OutK, Store.empty, Store.new, Store.put, Store.get, look, putL, setR, Store.only, Store.merge, touch, wrote, upTo, isIn, okRec, hits, capsOf, xcaps, stripL, AVal.strip, freeL, AVal.free, fillR, chunks, mkV, List.filter]
    obtain ⟨tm', σ', rfl, hl', k1⟩ := hE
    simp [hl', xresult, xrets]
    exact hΦ _ k1
end
end Go.Proofs.YtbgjmclpahganaaGreat.Eng

/-
  READINGS, F: what is agreed, and what contradicts.
-/
namespace Go.Proofs.YtbgjmclpahganaaGreat.Eng
set_option linter.unusedSimpArgs false
set_option linter.unusedVariables false

def agr (a : List Kn) (net : List Int) (l : List Rdg) : Kn × Int := if allErr a net l ≠ 0 then ((0, 0), allErr a net l) else if emp (comN (perms a net l) l.length) then ((0, 0), 13) else (comN (perms a net l) l.length, 0)
/-- The first place with something. -/
def fe (p : Nat → Bool) : Nat → Nat → Option Nat
  | 0, _ => none
  | k + 1, i => if p i then some i else fe p k (i + 1)
def fp (q : Nat → Nat → Bool) (n : Nat) : Nat → Nat → Option (Nat × Nat)
  | 0, _ => none
  | k + 1, i => match fe (q i) (n - (i + 1)) (i + 1) with
    | some j => some (i, j)
    | none => fp q n k (i + 1)
def P1 (P : List Kn) (i : Nat) : Bool := emp (kat P i)
def P2 (P : List Kn) (i j : Nat) : Bool := emp (mm (kat P i) (kat P j))
def conP (P : List Kn) : List Int × Int := match fe (P1 P) P.length 0 with
  | some i => ([(i : Int)], 0)
  | none => match fp (P2 P) P.length P.length 0 with
    | some (i, j) => ([(i : Int), (j : Int)], 0)
    | none => ([], 12)
def con (a : List Kn) (net : List Int) (l : List Rdg) : List Int × Int := if allErr a net l ≠ 0 then ([], allErr a net l) else conP (perms a net l)
theorem mm_self (r : Kn) : mm r r = r := by unfold mm; simp
def intsV (l : List Int) : AVal := if l = [] then .nils else .list 1 (ints l) none
theorem intsV_dl (l : List Int) : DL l (intsV l) := by
  unfold intsV; split
  · rename_i h; exact .inl ⟨rfl, h⟩
  · exact .inr rfl
structure Ret52 (L : List Int) (tm' : List AVal) : Prop where
  len : tm'.length = 64
  v : (XOpd.eval tm' (.t 6)).strip = .list 1 (ints L) none
  e : XOpd.eval tm' (.t 7) = .int .i64 0
def exO {α : Type} (n : Nat) : Option α → XExit
  | none => .exit n
  | some _ => .ret
def Q52a (P : List Kn) (o : Option Nat) (tm' : List AVal) (_ : Store) : Prop := tm'.length = 64 ∧ (o = none → XOpd.eval tm' (.t 8) = .list 2 (kns P) none) ∧ (∀ j, o = some j → Ret52 [(j : Int)] tm')
def Q52b (P : List Kn) (i : Nat) (o : Option Nat) (tm' : List AVal) (_ : Store) : Prop := tm'.length = 64 ∧ (o = none → XOpd.eval tm' (.t 8) = .list 2 (kns P) none ∧ XOpd.eval tm' (.t 37) = .list 2 (kns P) none ∧ XOpd.eval tm' (.t 38) = .int .i64 P.length ∧ XOpd.eval tm' (.t 39) = .int .i64 i) ∧ (∀ j, o = some j → Ret52 [(i : Int), (j : Int)] tm')
def Q52c (o : Option (Nat × Nat)) (tm' : List AVal) (_ : Store) : Prop := tm'.length = 64 ∧ (∀ i j, o = some (i, j) → Ret52 [(i : Int), (j : Int)] tm')
section
variable {X : FuncId → Option XFunc} (hX : ReadCode X)
include hX
theorem t49 {a : List Kn} {u : AVal} (ha : KL a u) (ha1 : a.length ≤ 1000000) {net : List Int} {v : AVal} (hn : DL net v) (hn1 : net.length ≤ 1000000) {l : List Rdg} {w : AVal} (h : w.strip = .list 3 (rds l) none ∨ RL l w) (hl1 : l.length ≤ 1000000) (σ : Store) :
    Run X (.call 30) [.agg [u], v, w] σ = some (.ret, [ans (agr a net l)], σ) := by
  have hw : RL l w.strip := by
    rcases h with h | h
    · exact .inr h
    · rw [h.strip]; exact h
  refine call3 (v := ans (agr a net l)) hX.h30 (by simp [AVal.strip, stripL, AVal.free, freeL, ha.strip, ha.free]) (by rw [hn.strip]; exact hn.free) hw.free (by decide) (fun tm hl h0 h1 h2 => ?_) rfl σ
  generalize w.strip = w at *
  clear h
  simp only [AVal.strip, stripL, ha.strip] at h0
  rw [hn.strip] at h1
  replace hl : tm.length = 28 := hl
  unfold Gives
  by_cases c : allErr a net l = 0
  · have t100 := t100 hX ha ha1 hn hn1 hw hl1 c
    obtain ⟨t, no, l0, l10, ro⟩ := reads_ok c
    have t101 := t101 hX (l := perms a net l) (v := .list 2 (kns (perms a net l)) none) (by simp [AVal.strip, kns_strip]) (by simpa using l0) (by simp; omega)
    have t102 := t102 hX (comN (perms a net l) l.length)
    rw [perms_len] at t101
    simp only [Kn.enc] at t101 t102
    cases d : emp (comN (perms a net l) l.length) <;> simp [xf30, hl, h0, h1, h2, t100, t101, t102, c, d, agr, ans, rng, xresult, xrets, ha.strip, ha.free, ha.one, hn.strip, hn.free, hn.one, hw.strip, hw.free, hw.one, Store.empty, Store.new, Store.put, Store.get, look, putL, setR, Store.only, Store.merge, touch, wrote, upTo, isIn, okRec, hits, capsOf, xcaps, stripL, AVal.strip, freeL, AVal.free, fillR, chunks, mkV, List.filter]
  · have t100 := t100_err hX ha ha1 hn hn1 hw hl1 c
    simp [xf30, hl, h0, h1, h2, t100, c, agr, ans, rng, xresult, xrets, ha.strip, ha.free, ha.one, hn.strip, hn.free, hn.one, hw.strip, hw.free, hw.one, Store.empty, Store.new, Store.put, Store.get, look, putL, setR, Store.only, Store.merge, touch, wrote, upTo, isIn, okRec, hits, capsOf, xcaps, stripL, AVal.strip, freeL, AVal.free, fillR, chunks, mkV, List.filter]
theorem loop52a {P : List Kn} (hn : P.length ≤ 1000000) : ∀ (k i : Nat), i + k = P.length → ∀ (tm : List AVal) (σ : Store), tm.length = 64 → XOpd.eval tm (.t 8) = .list 2 (kns P) none → XOpd.eval tm (.t 25) = .list 2 (kns P) none → XOpd.eval tm (.t 26) = .int .i64 P.length → XOpd.eval tm (.t 27) = .int .i64 i →
    Ends (Run X (.code (.loop xf34l0)) tm σ) (exO 0 (fe (P1 P) k i)) (Q52a P (fe (P1 P) k i))
  | 0, i, hk, tm, σ, hl, h8, h25, h26, h27 => by
    have e : i = P.length := by omega
    subst e
    rw [Run_loop]
    simp [xf34l0, hl, h8, h26, h27, fe, exO]
    exact ⟨by simp [hl], fun _ => by simp [hl, h8], fun j hj => by cases hj⟩
  | k + 1, i, hk, tm, σ, hl, h8, h25, h26, h27 => by
    have hi : i < P.length := by omega
    have hw : IntKind.i64.wrap ((i : Int) + 1) = ((i + 1 : Nat) : Int) := by rw [wrap_i64] <;> omega
    have q1 := kns_getElem? (l := P) (i := i) hi
    have t102 := t102 hX (kat P i)
    have ih := loop52a hn k (i + 1) (by omega)
    simp only [Kn.enc] at t102 q1
    rw [Run_loop]
    cases d : emp (kat P i)
    · have e : fe (P1 P) (k + 1) i = fe (P1 P) k (i + 1) := by simp only [fe, P1, d, Bool.false_eq_true, if_false]
      rw [e]
      simp [xf34l0, hl, h25, h26, h27, hi, q1, t102, hw, d, Kn.enc, put_next, new_next, Store.get_new, Store.get_put, put_get, setR, only_get, merge_get', only_next, merge_next, upTo_self, upTo_one, merge_only, touch, wrote, isIn, okRec, hits, capsOf, xcaps, stripL, AVal.strip, freeL, AVal.free, fillR, chunks, mkV]
      refine ih _ _ ?_ ?_ ?_ ?_ ?_
      all_goals simp [hl, h8, h25, h26]
    · have e : fe (P1 P) (k + 1) i = some i := by simp only [fe, P1, d, if_true]
      rw [e]
      simp [xf34l0, hl, h25, h26, h27, hi, q1, t102, d, Kn.enc, exO, put_next, new_next, Store.get_new, Store.get_put, put_get, setR, only_get, merge_get', only_next, merge_next, upTo_self, upTo_one, merge_only, touch, wrote, isIn, okRec, hits, capsOf, xcaps, stripL, AVal.strip, freeL, AVal.free, fillR, chunks, mkV]
      exact ⟨by simp [hl], (fun h => by cases h), fun j hj => by cases hj; exact ⟨by simp [hl], by simp [hl, AVal.strip, stripL, ints], by simp [hl]⟩⟩
set_option maxHeartbeats 1000000 in
theorem loop52b {P : List Kn} (hn : P.length ≤ 1000000) {i : Nat} (hi : i < P.length) {m : Nat} : ∀ (k j : Nat), j + k = P.length → ∀ (tm : List AVal) (σ : Store), tm.length = 64 → XOpd.eval tm (.t 8) = .list 2 (kns P) none → XOpd.eval tm (.t 37) = .list 2 (kns P) none → XOpd.eval tm (.t 38) = .int .i64 P.length → XOpd.eval tm (.t 39) = .int .i64 i → XOpd.eval tm (.t 12) = .int .i64 i → XOpd.eval tm (.t 14) = .int .i64 j → XOpd.eval tm (.t 13) = .ptr m 0 → σ.get m = some (.cells [.int .i64 (kat P i).1, .int .i64 (kat P i).2]) → m < σ.next →
    Ends (Run X (.code (.loop xf34l1)) tm σ) (exO 4 (fe (P2 P i) k j)) (Q52b P i (fe (P2 P i) k j))
  | 0, j, hk, tm, σ, hl, h8, h37, h38, h39, h12, h14, h13, gm, hm => by
    have e : j = P.length := by omega
    subst e
    rw [Run_loop]
    simp [xf34l1, hl, h8, h14, fe, exO]
    exact ⟨by simp [hl], fun _ => by simp [hl, h8, h37, h38, h39], fun j hj => by cases hj⟩
  | k + 1, j, hk, tm, σ, hl, h8, h37, h38, h39, h12, h14, h13, gm, hm => by
    have hj : j < P.length := by omega
    have hw : IntKind.i64.wrap ((j : Int) + 1) = ((j + 1 : Nat) : Int) := by rw [wrap_i64] <;> omega
    have q1 := kns_getElem? (l := P) (i := j) hj
    have hc : comN [kat P i, kat P j] 2 = mm (kat P i) (kat P j) := by
      show mm (mm (kat P i) (kat P i)) (kat P j) = _
      rw [mm_self]
    have t101 := fun tok => t101 hX (l := [kat P i, kat P j]) (v := .list 2 [.agg [.int .i64 (kat P i).1, .int .i64 (kat P i).2], .agg [.int .i64 (kat P j).1, .int .i64 (kat P j).2]] tok) (by simp [AVal.strip, stripL, kns, Kn.enc]) (by simp) (by simp)
    simp only [List.length_cons, List.length_nil, Nat.zero_add, Nat.reduceAdd, hc] at t101
    have t102 := t102 hX (mm (kat P i) (kat P j))
    have n1 : ¬ m = σ.next := by omega
    have m1 : ¬ σ.next = m := by omega
    have ih := loop52b hn hi (m := m) k (j + 1) (by omega)
    simp only [Kn.enc] at t101 t102 q1
    rw [Run_loop]
    cases d : emp (mm (kat P i) (kat P j))
    · have e : fe (P2 P i) (k + 1) j = fe (P2 P i) k (j + 1) := by simp only [fe, P2, d, Bool.false_eq_true, if_false]
      rw [e]
      rw [d] at t102
      simp [xf34l1, hl, h8, h13, h14, gm, hj, q1, t101, t102, hw, n1, m1, Kn.enc, put_next, new_next, Store.get_new, Store.get_put, put_get, setR, only_get, merge_get', only_next, merge_next, upTo_self, upTo_one, merge_only, touch, wrote, isIn, okRec, hits, capsOf, xcaps, stripL, AVal.strip, freeL, AVal.free, fillR, chunks, mkV]
      refine ih _ _ ?_ ?_ ?_ ?_ ?_ ?_ ?_ ?_ ?_ ?_
      all_goals simp [hl, h8, h37, h38, h39, h12, h13, gm, n1, m1, put_next, new_next, Store.get_new, Store.get_put, put_get, setR, only_get, merge_get', only_next, merge_next, upTo_self, upTo_one, merge_only, touch, wrote, isIn, okRec, hits, capsOf, xcaps, stripL, AVal.strip, freeL, AVal.free, fillR, chunks, mkV]
      all_goals omega
    · have e : fe (P2 P i) (k + 1) j = some j := by simp only [fe, P2, d, if_true]
      rw [e]
      rw [d] at t102
      simp [xf34l1, hl, h8, h12, h13, h14, gm, hj, q1, t101, t102, n1, m1, Kn.enc, exO, put_next, new_next, Store.get_new, Store.get_put, put_get, setR, only_get, merge_get', only_next, merge_next, upTo_self, upTo_one, merge_only, touch, wrote, isIn, okRec, hits, capsOf, xcaps, stripL, AVal.strip, freeL, AVal.free, fillR, chunks, mkV]
      exact ⟨by simp [hl], (fun h => by cases h), fun j hj => by cases hj; exact ⟨by simp [hl], by simp [hl, AVal.strip, stripL, ints], by simp [hl]⟩⟩
set_option maxHeartbeats 1000000 in
theorem loop52c {P : List Kn} (hn : P.length ≤ 1000000) : ∀ (k i : Nat), i + k = P.length → ∀ (tm : List AVal) (σ : Store), tm.length = 64 → XOpd.eval tm (.t 8) = .list 2 (kns P) none → XOpd.eval tm (.t 37) = .list 2 (kns P) none → XOpd.eval tm (.t 38) = .int .i64 P.length → XOpd.eval tm (.t 39) = .int .i64 i →
    Ends (Run X (.code (.loop xf34l2)) tm σ) (exO 2 (fp (P2 P) P.length k i)) (Q52c (fp (P2 P) P.length k i))
  | 0, i, hk, tm, σ, hl, h8, h37, h38, h39 => by
    have e : i = P.length := by omega
    subst e
    rw [Run_loop]
    simp [xf34l2, hl, h38, h39, fp, exO]
    exact ⟨by simp [hl], fun i j hj => by cases hj⟩
  | k + 1, i, hk, tm, σ, hl, h8, h37, h38, h39 => by
    have hi : i < P.length := by omega
    have hw : IntKind.i64.wrap ((i : Int) + 1) = ((i + 1 : Nat) : Int) := by rw [wrap_i64] <;> omega
    have q1 := kns_getElem? (l := P) (i := i) hi
    have ih := loop52c hn k (i + 1) (by omega)
    simp only [Kn.enc] at q1
    rw [Run_loop]
    simp [xf34l2, hl, h37, h38, h39, hi, q1, hw, Kn.enc, put_next, new_next, Store.get_new, Store.get_put, put_get, setR, only_get, merge_get', only_next, merge_next, upTo_self, upTo_one, merge_only, touch, wrote, isIn, okRec, hits, capsOf, xcaps, stripL, AVal.strip, freeL, AVal.free, fillR, chunks, mkV]
    generalize hR : Run X (.code (.loop xf34l1)) _ _ = R
    have hE : Ends R (exO 4 (fe (P2 P i) (P.length - (i + 1)) (i + 1))) (Q52b P i (fe (P2 P i) (P.length - (i + 1)) (i + 1))) := by
      rw [← hR]
      refine loop52b hX hn hi (m := σ.next) (P.length - (i + 1)) (i + 1) (by omega) _ _ ?_ ?_ ?_ ?_ ?_ ?_ ?_ ?_ ?_ ?_
      all_goals simp [hl, h8, h37, h38, h39, put_next, new_next, Store.get_new, Store.get_put, put_get, setR, only_get, merge_get', only_next, merge_next, upTo_self, upTo_one, merge_only, touch, wrote, isIn, okRec, hits, capsOf, xcaps, stripL, AVal.strip, freeL, AVal.free, fillR, chunks, mkV]
    obtain ⟨tm', σ', rfl, hl', k1, k2⟩ := hE
    cases d : fe (P2 P i) (P.length - (i + 1)) (i + 1) with
    | none =>
      have e : fp (P2 P) P.length (k + 1) i = fp (P2 P) P.length k (i + 1) := by simp only [fp, d]
      obtain ⟨r1, r2, r3, r4⟩ := k1 d
      rw [e]
      simp [exO, hl', r4, hw]
      refine ih _ _ ?_ ?_ ?_ ?_ ?_
      all_goals simp [hl', r1, r2, r3, r4]
    | some j =>
      have e : fp (P2 P) P.length (k + 1) i = some (i, j) := by simp only [fp, d]
      rw [e]
      simp [exO]
      exact ⟨hl', fun i' j' h => by cases h; exact k2 j d⟩
theorem t52 {a : List Kn} {u : AVal} (ha : KL a u) (ha1 : a.length ≤ 1000000) {net : List Int} {v : AVal} (hn : DL net v) (hn1 : net.length ≤ 1000000) {l : List Rdg} {w : AVal} (hw : RL l w) (hl1 : l.length ≤ 1000000) (σ : Store) :
    Run X (.call 34) [.agg [u], v, w] σ = some (.ret, [.tup [intsV (con a net l).1, .int .i64 (con a net l).2]], σ) := by
  have := call3E (X := X) (f := 34) (a := .agg [u]) (b := v) (c := w) (Φ := fun r => r = .tup [intsV (con a net l).1, .int .i64 (con a net l).2]) hX.h34 (by simp [AVal.strip, stripL, AVal.free, freeL, ha.strip, ha.free]) (by rw [hn.strip]; exact hn.free) (by rw [hw.strip]; exact hw.free) (by decide) (fun tm hl h0 h1 h2 => ?_)
  · obtain ⟨r, hr, hrun⟩ := this
    rw [hrun, hr]
  simp only [AVal.strip, stripL, ha.strip] at h0
  rw [hn.strip] at h1
  rw [hw.strip] at h2
  replace hl : tm.length = 64 := hl
  have hΦ : ∀ x y : AVal, x.strip = intsV (con a net l).1 → y = .int .i64 (con a net l).2 → Told (fun r => r = .tup [intsV (con a net l).1, .int .i64 (con a net l).2]) (.tup [x, y]) := fun x y hx hy => by
    subst hy
    have := (intsV_dl (con a net l).1).free
    unfold Told
    simp [AVal.strip, stripL, hx, AVal.free, freeL, this]
  generalize Told (fun r => r = .tup [intsV (con a net l).1, .int .i64 (con a net l).2]) = Φ at hΦ ⊢
  unfold GivesE
  by_cases c : allErr a net l = 0
  · have t100 := t100 hX ha ha1 hn hn1 hw hl1 c
    have ec : con a net l = conP (perms a net l) := by unfold con; rw [if_neg (by simpa using c)]
    rw [ec] at hΦ
    have hP : (perms a net l).length ≤ 1000000 := by simpa using hl1
    have hP' : l.length = (perms a net l).length := by simp
    generalize perms a net l = P at *
    simp [xf34, hl, h0, h1, h2, t100, xresult, xrets, ha.strip, ha.free, ha.one, hn.strip, hn.free, hn.one, hw.strip, hw.free, hw.one, Store.empty, Store.new, Store.put, Store.get, look, putL, setR, Store.only, Store.merge, touch, wrote, upTo, isIn, okRec, hits, capsOf, xcaps, stripL, AVal.strip, freeL, AVal.free, fillR, chunks, mkV, List.filter]
    generalize hR : Run X (.code (.loop xf34l0)) _ _ = R
    have hE : Ends R (exO 0 (fe (P1 P) P.length 0)) (Q52a P (fe (P1 P) P.length 0)) := by
      rw [← hR]
      refine loop52a hX hP P.length 0 (by omega) _ _ ?_ ?_ ?_ ?_ ?_
      all_goals simp [hl]
    obtain ⟨tm', σ', rfl, hl', k1, k2⟩ := hE
    cases d : fe (P1 P) P.length 0 with
    | some i =>
      have e : conP P = ([(i : Int)], 0) := by unfold conP; rw [d]
      rw [e] at hΦ
      obtain ⟨_, r1, r2⟩ := k2 i d
      simp [exO, xresult, xrets]
      exact hΦ _ _ (by rw [r1]; rfl) r2
    | none =>
      have r1 := k1 d
      simp [exO, hl', r1]
      generalize hR2 : Run X (.code (.loop xf34l2)) _ _ = R2
      have hE2 : Ends R2 (exO 2 (fp (P2 P) P.length P.length 0)) (Q52c (fp (P2 P) P.length P.length 0)) := by
        rw [← hR2]
        refine loop52c hX hP P.length 0 (by omega) _ _ ?_ ?_ ?_ ?_ ?_
        all_goals simp [hl', r1]
      obtain ⟨tm2, σ2, rfl, hl2, k3⟩ := hE2
      cases d2 : fp (P2 P) P.length P.length 0 with
      | some ij =>
        obtain ⟨i, j⟩ := ij
        have e : conP P = ([(i : Int), (j : Int)], 0) := by unfold conP; rw [d]; simp only [d2]
        rw [e] at hΦ
        obtain ⟨_, r2, r3⟩ := k3 i j d2
        simp [exO, xresult, xrets]
        exact hΦ _ _ (by rw [r2]; rfl) r3
      | none =>
        have e : conP P = ([], 12) := by unfold conP; rw [d]; simp only [d2]
        rw [e] at hΦ
        simp [exO, hl2, xresult, xrets]
        exact hΦ _ _ rfl rfl
  · have t100 := t100_err hX ha ha1 hn hn1 hw hl1 c
    have ec : con a net l = ([], allErr a net l) := by unfold con; rw [if_pos c]
    rw [ec] at hΦ
    simp [xf34, hl, h0, h1, h2, t100, c, xresult, xrets, ha.strip, ha.free, ha.one, hn.strip, hn.free, hn.one, hw.strip, hw.free, hw.one, Store.empty, Store.new, Store.put, Store.get, look, putL, setR, Store.only, Store.merge, touch, wrote, upTo, isIn, okRec, hits, capsOf, xcaps, stripL, AVal.strip, freeL, AVal.free, fillR, chunks, mkV, List.filter]
    exact hΦ _ _ rfl rfl
end
end Go.Proofs.YtbgjmclpahganaaGreat.Eng

/-
  READINGS, G: levels and volumes against each other; what has nothing in common.
-/
namespace Go.Proofs.YtbgjmclpahganaaGreat.Eng
set_option linter.unusedSimpArgs false
set_option linter.unusedVariables false

theorem sLo_ge {x x0 x1 y0 y1 y : Int} (h : x0 < x1) : y ≤ sLo x x0 x1 y0 y1 ↔ (y - y0) * (x1 - x0) ≤ (x - x0) * (y1 - y0) := by
  unfold sLo sNum
  rw [← Int.le_ediv_iff_mul_le (by omega)]
  omega
theorem sHi_le {x x0 x1 y0 y1 y : Int} (h : x0 < x1) : sHi x x0 x1 y0 y1 ≤ y ↔ (x - x0) * (y1 - y0) ≤ (y - y0) * (x1 - x0) := by
  unfold sHi sLo sNum
  generalize hn : (x - x0) * (y1 - y0) = n
  have hd : 0 < x1 - x0 := by omega
  generalize x1 - x0 = d at *
  have e := Int.mul_ediv_add_emod n d
  have e1 := Int.emod_nonneg n (Int.ne_of_gt hd)
  have e2 := Int.emod_lt_of_pos n hd
  have key : ∀ z : Int, (n ≤ z * d ↔ (if 0 < n % d then n / d + 1 else n / d) ≤ z) := by
    intro z
    constructor
    · intro h1
      have h2 : n / d ≤ z := by
        have := Int.ediv_le_ediv hd h1
        rwa [Int.mul_ediv_cancel _ (Int.ne_of_gt hd)] at this
      split
      · by_cases h3 : n / d = z
        · rw [h3, Int.mul_comm] at e; omega
        · omega
      · exact h2
    · intro h1
      have h3 : d * (if 0 < n % d then n / d + 1 else n / d) ≤ d * z := Int.mul_le_mul_of_nonneg_left h1 (by omega)
      rw [Int.mul_comm z d]
      split at h3
      · rw [Int.mul_add] at h3; omega
      · omega
  rw [key]
  split <;> omega
theorem lev_vol {a : List Kn} (t : Tab a) {x y : Int} (hx : isVol a x = true) (hy : isLev a y = true) : (y ≤ (levR a x).1 ↔ (volR a y).2 ≤ x) ∧ ((levR a x).2 ≤ y ↔ x ≤ (volR a y).1) := by
  obtain ⟨i1, i2, i3, i4⟩ := vix_in t hx
  obtain ⟨j1, j2, j3, j4⟩ := lix_in t hy
  have si := vix_s t hx; have sj := lix_s t hy
  have e1 : (levR a x).1 = sLo x (kat a (vix a x - 1)).2 (kat a (vix a x)).2 (kat a (vix a x - 1)).1 (kat a (vix a x)).1 := rfl
  have e2 : (levR a x).2 = sHi x (kat a (vix a x - 1)).2 (kat a (vix a x)).2 (kat a (vix a x - 1)).1 (kat a (vix a x)).1 := rfl
  have e3 : (volR a y).1 = sLo y (kat a (lix a y - 1)).1 (kat a (lix a y)).1 (kat a (lix a y - 1)).2 (kat a (lix a y)).2 := rfl
  have e4 : (volR a y).2 = sHi y (kat a (lix a y - 1)).1 (kat a (lix a y)).1 (kat a (lix a y - 1)).2 (kat a (lix a y)).2 := rfl
  have ci := t.inc _ i1 i2; have cj := t.inc _ j1 j2
  rw [e1, e2, e3, e4, sLo_ge ci.2, sHi_le ci.2, sHi_le cj.1, sLo_ge cj.1]
  have h2 := t.two
  have bx := isVol_iff.1 hx; have bY := isLev_iff.1 hy
  have mi : ∀ m, 1 ≤ m → m < vix a x → (kat a m).2 < x := (upF_spec (fun i => (kat a i).2) x (a.length - 2) 1 (by rw [show 1 + (a.length - 2) = a.length - 1 from by omega]; exact bx.2)).2
  have mj : ∀ m, 1 ≤ m → m < lix a y → (kat a m).1 < y := (upF_spec (fun i => (kat a i).1) y (a.length - 2) 1 (by rw [show 1 + (a.length - 2) = a.length - 1 from by omega]; exact bY.2)).2
  generalize vix a x = i at *
  generalize lix a y = j at *
  by_cases hij : i = j
  · subst hij; exact ⟨Iff.rfl, Iff.rfl⟩
  by_cases hlt : i < j
  · have m1 := mono_lev t (i := i) (j := j - 1) (by omega) (by omega)
    have m2 := mj (j - 1) (by omega) (by omega)
    have s1 : (x - (kat a (i - 1)).2) * ((kat a i).1 - (kat a (i - 1)).1) ≤ ((kat a i).2 - (kat a (i - 1)).2) * ((kat a i).1 - (kat a (i - 1)).1) := Int.mul_le_mul_of_nonneg_right (by omega) (by omega)
    have s2 : ((kat a i).1 - (kat a (i - 1)).1) * ((kat a i).2 - (kat a (i - 1)).2) < (y - (kat a (i - 1)).1) * ((kat a i).2 - (kat a (i - 1)).2) := Int.mul_lt_mul_of_pos_right (by omega) (by omega)
    rw [Int.mul_comm] at s2
    have s3 : (x - (kat a (j - 1)).2) * ((kat a j).1 - (kat a (j - 1)).1) ≤ 0 * ((kat a j).1 - (kat a (j - 1)).1) := Int.mul_le_mul_of_nonneg_right (by omega) (by omega)
    have s4 : 0 * ((kat a j).2 - (kat a (j - 1)).2) < (y - (kat a (j - 1)).1) * ((kat a j).2 - (kat a (j - 1)).2) := Int.mul_lt_mul_of_pos_right (by omega) (by omega)
    rw [Int.zero_mul] at s3 s4
    constructor <;> constructor <;> intro h <;> omega
  · have m1 := mono_lev t (i := j) (j := i - 1) (by omega) (by omega)
    have m2 := mi (i - 1) (by omega) (by omega)
    have s1 : (y - (kat a (j - 1)).1) * ((kat a j).2 - (kat a (j - 1)).2) ≤ ((kat a j).1 - (kat a (j - 1)).1) * ((kat a j).2 - (kat a (j - 1)).2) := Int.mul_le_mul_of_nonneg_right (by omega) (by omega)
    have s2 : ((kat a j).2 - (kat a (j - 1)).2) * ((kat a j).1 - (kat a (j - 1)).1) < (x - (kat a (j - 1)).2) * ((kat a j).1 - (kat a (j - 1)).1) := Int.mul_lt_mul_of_pos_right (by omega) (by omega)
    rw [Int.mul_comm ((kat a j).2 - (kat a (j - 1)).2)] at s2
    have s3 : (y - (kat a (i - 1)).1) * ((kat a i).2 - (kat a (i - 1)).2) ≤ 0 * ((kat a i).2 - (kat a (i - 1)).2) := Int.mul_le_mul_of_nonneg_right (by omega) (by omega)
    have s4 : 0 * ((kat a i).1 - (kat a (i - 1)).1) < (x - (kat a (i - 1)).2) * ((kat a i).1 - (kat a (i - 1)).1) := Int.mul_lt_mul_of_pos_right (by omega) (by omega)
    rw [Int.zero_mul] at s3 s4
    constructor <;> constructor <;> intro h <;> omega
theorem vol_range {a : List Kn} (t : Tab a) {y : Int} (hy : isLev a y = true) : (kat a 0).2 ≤ (volR a y).1 ∧ (volR a y).1 ≤ (volR a y).2 ∧ (volR a y).2 ≤ (kat a (a.length - 1)).2 := by
  obtain ⟨j1, j2, j3, j4⟩ := lix_in t hy
  have lo := (lix_s t hy).lo
  have e3 : (volR a y).1 = sLo y (kat a (lix a y - 1)).1 (kat a (lix a y)).1 (kat a (lix a y - 1)).2 (kat a (lix a y)).2 := rfl
  have e4 : (volR a y).2 = sHi y (kat a (lix a y - 1)).1 (kat a (lix a y)).1 (kat a (lix a y - 1)).2 (kat a (lix a y)).2 := rfl
  have m1 := mono_lev t (i := 0) (j := lix a y - 1) (by omega) (by omega)
  have m2 := mono_lev t (i := lix a y) (j := a.length - 1) (by omega) (by omega)
  rw [e3, e4]
  obtain ⟨k1, k2, k3, k4, k5⟩ := lo
  refine ⟨?_, ?_, ?_⟩ <;> omega
/-- Is the volume within what was read? -/
def okR (a : List Kn) (net : List Int) (V : Int) (r : Rdg) : Bool := isVol a (V + sm net r.1.toNat) && (decide (r.2.1 ≤ (levR a (V + sm net r.1.toNat)).1) && decide ((levR a (V + sm net r.1.toNat)).2 ≤ r.2.2))
theorem okR_iff {a : List Kn} (t : Tab a) {net : List Int} {V : Int} {r : Rdg} (ro : RdOk a net.length r) : okR a net V r = true ↔ (perm a net r).1 ≤ V ∧ V ≤ (perm a net r).2 := by
  have v1 := vol_range t ro.lo; have v2 := vol_range t ro.hi
  unfold okR perm
  by_cases hx : isVol a (V + sm net r.1.toNat) = true
  · have h1 := (lev_vol t hx ro.lo).1; have h2 := (lev_vol t hx ro.hi).2
    simp only [hx, Bool.true_and, Bool.and_eq_true, decide_eq_true_eq, h1, h2]
    omega
  · have hx' : isVol a (V + sm net r.1.toNat) = false := by simpa using hx
    simp only [hx', Bool.false_and]
    constructor
    · intro h; cases h
    · intro h
      exfalso; apply hx
      exact isVol_iff.2 (by omega)

/-! What has something in common. -/
theorem fe_some {p : Nat → Bool} : ∀ {k i r : Nat}, fe p k i = some r → i ≤ r ∧ r < i + k ∧ p r = true
  | 0, _, _, h => by cases h
  | k + 1, i, r, h => by
    simp only [fe] at h
    split at h
    · cases h; rename_i hp; exact ⟨Nat.le_refl _, by omega, hp⟩
    · obtain ⟨h1, h2, h3⟩ := fe_some h; exact ⟨by omega, by omega, h3⟩
theorem fe_none {p : Nat → Bool} : ∀ {k i : Nat}, fe p k i = none → ∀ r, i ≤ r → r < i + k → p r = false
  | 0, _, _, r, h1, h2 => by omega
  | k + 1, i, h, r, h1, h2 => by
    simp only [fe] at h
    split at h
    · cases h
    · rename_i hp
      by_cases e : r = i
      · subst e; simpa using hp
      · exact fe_none h r (by omega) (by omega)
theorem fp_some {q : Nat → Nat → Bool} {n : Nat} : ∀ {k i r s : Nat}, i + k = n → fp q n k i = some (r, s) → i ≤ r ∧ r < s ∧ s < n ∧ q r s = true
  | 0, _, _, _, _, h => by cases h
  | k + 1, i, r, s, hk, h => by
    simp only [fp] at h
    split at h
    · rename_i j hj
      cases h
      obtain ⟨h1, h2, h3⟩ := fe_some hj
      exact ⟨Nat.le_refl _, by omega, by omega, h3⟩
    · obtain ⟨h1, h2, h3, h4⟩ := fp_some (by omega) h
      exact ⟨by omega, h2, h3, h4⟩
theorem fp_none {q : Nat → Nat → Bool} {n : Nat} : ∀ {k i : Nat}, i + k = n → fp q n k i = none → ∀ r s, i ≤ r → r < s → s < n → q r s = false
  | 0, _, _, _, r, s, h1, h2, h3 => by omega
  | k + 1, i, hk, h, r, s, h1, h2, h3 => by
    simp only [fp] at h
    split at h
    · cases h
    · rename_i hn
      by_cases e : r = i
      · subst e; exact fe_none hn s (by omega) (by omega)
      · exact fp_none (by omega) h r s (by omega) h2 h3
theorem mm_fst (c r : Kn) : c.1 ≤ (mm c r).1 ∧ r.1 ≤ (mm c r).1 ∧ ((mm c r).1 = c.1 ∨ (mm c r).1 = r.1) := by
  unfold mm; simp only; split <;> omega
theorem mm_snd (c r : Kn) : (mm c r).2 ≤ c.2 ∧ (mm c r).2 ≤ r.2 ∧ ((mm c r).2 = c.2 ∨ (mm c r).2 = r.2) := by
  unfold mm; simp only; split <;> omega
theorem com_ge {P : List Kn} : ∀ k i, i < k → (kat P i).1 ≤ (comN P k).1 ∧ (comN P k).2 ≤ (kat P i).2
  | 0, i, h => by omega
  | k + 1, i, h => by
    have f1 := mm_fst (comN P k) (kat P k); have f2 := mm_snd (comN P k) (kat P k)
    show (kat P i).1 ≤ (mm (comN P k) (kat P k)).1 ∧ (mm (comN P k) (kat P k)).2 ≤ (kat P i).2
    by_cases e : i = k
    · subst e; omega
    · have := com_ge (P := P) k i (by omega); omega
theorem com_is {P : List Kn} (h0 : 0 < P.length) : ∀ k, k ≤ P.length → (∃ i, i < P.length ∧ (comN P k).1 = (kat P i).1) ∧ (∃ j, j < P.length ∧ (comN P k).2 = (kat P j).2)
  | 0, _ => ⟨⟨0, h0, rfl⟩, ⟨0, h0, rfl⟩⟩
  | k + 1, h => by
    obtain ⟨⟨i, i1, i2⟩, ⟨j, j1, j2⟩⟩ := com_is h0 k (by omega)
    have f1 := mm_fst (comN P k) (kat P k); have f2 := mm_snd (comN P k) (kat P k)
    refine ⟨?_, ?_⟩
    · rcases f1.2.2 with e | e
      · exact ⟨i, i1, by rw [← i2]; exact e⟩
      · exact ⟨k, by omega, e⟩
    · rcases f2.2.2 with e | e
      · exact ⟨j, j1, by rw [← j2]; exact e⟩
      · exact ⟨k, by omega, e⟩
theorem emp_iff {r : Kn} : emp r = true ↔ r.2 < r.1 := by simp [emp]
theorem emp_no {r : Kn} : emp r = false ↔ r.1 ≤ r.2 := by simp [emp]
/-- Where all have nothing in common, one is empty, or two have nothing in common. -/
theorem helly {P : List Kn} (h0 : 0 < P.length) (h : emp (comN P P.length) = true) (h1 : fe (P1 P) P.length 0 = none) : ∃ i j, fp (P2 P) P.length P.length 0 = some (i, j) := by
  cases h2 : fp (P2 P) P.length P.length 0 with
  | some ij => exact ⟨ij.1, ij.2, rfl⟩
  | none =>
    exfalso
    obtain ⟨⟨i, i1, i2⟩, ⟨j, j1, j2⟩⟩ := com_is h0 P.length (Nat.le_refl _)
    rw [emp_iff, i2, j2] at h
    have s1 := fe_none h1
    have s2 := fp_none (by omega) h2
    have g1 := emp_no.1 (s1 i (by omega) (by omega)); have g2 := emp_no.1 (s1 j (by omega) (by omega))
    by_cases e : i = j
    · subst e; omega
    · by_cases hlt : i < j
      · have := emp_no.1 (s2 i j (by omega) hlt j1)
        have f1 := mm_fst (kat P i) (kat P j); have f2 := mm_snd (kat P i) (kat P j); omega
      · have := emp_no.1 (s2 j i (by omega) (by omega) i1)
        have f1 := mm_fst (kat P j) (kat P i); have f2 := mm_snd (kat P j) (kat P i); omega
theorem none_of {P : List Kn} (h : emp (comN P P.length) = false) : fe (P1 P) P.length 0 = none ∧ fp (P2 P) P.length P.length 0 = none := by
  rw [emp_no] at h
  constructor
  · cases h1 : fe (P1 P) P.length 0 with
    | none => rfl
    | some r =>
      obtain ⟨r1, r2, r3⟩ := fe_some h1
      have := emp_iff.1 r3
      have := com_ge (P := P) P.length r (by omega); omega
  · cases h1 : fp (P2 P) P.length P.length 0 with
    | none => rfl
    | some rs =>
      obtain ⟨r, s⟩ := rs
      obtain ⟨r1, r2, r3, r4⟩ := fp_some (by omega) h1
      have := emp_iff.1 r4
      have c1 := com_ge (P := P) P.length r (by omega); have c2 := com_ge (P := P) P.length s (by omega)
      have f1 := mm_fst (kat P r) (kat P s); have f2 := mm_snd (kat P r) (kat P s); omega
end Go.Proofs.YtbgjmclpahganaaGreat.Eng
