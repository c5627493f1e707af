/-
  READINGS of the reference.
-/
import Derived.Test.YtbgjmclpahganaaGreatRead1
import Derived.Test.YtbgjmclpahganaaGreatRun1
import Derived.Test.YtbgjmclpahganaaGreatCode2
namespace Go.Proofs.YtbgjmclpahganaaGreat.Eng
set_option linter.unusedSimpArgs false
set_option linter.unusedVariables false
section
variable {X : FuncId → Option XFunc} (hX : VRdsCode X)
omit hX in
theorem loop66 {net : List Int} {v : AVal} (hn : DL net v) (no : NetOk net) {K : Nat} (hK : K ≤ net.length) {l1 l2 : AVal} {σ : Store} (g : σ.get 1 = some (.cells [.int .i64 K, l1, l2])) : ∀ (k i : Nat), i + k = K → ∀ (tm : List AVal), tm.length = 38 → XOpd.eval tm (.t 1) = v → XOpd.eval tm (.t 3) = .ptr 0 0 → XOpd.eval tm (.t 5) = .ptr 1 0 → XOpd.eval tm (.t 6) = .ptr 2 0 → XOpd.eval tm (.t 8) = .int .i64 i → XOpd.eval tm (.t 7) = .int .i64 (sm net i) →
    Ends (Run X (.code (.loop xf66l0)) tm σ) (.exit 0) fun tm' σ' => σ' = σ ∧ tm'.length = 38 ∧ XOpd.eval tm' (.t 3) = .ptr 0 0 ∧ XOpd.eval tm' (.t 5) = .ptr 1 0 ∧ XOpd.eval tm' (.t 6) = .ptr 2 0 ∧ XOpd.eval tm' (.t 7) = .int .i64 (sm net K)
  | 0, i, hk, tm, hl, h1, h3, h5, h6, h8, h7 => by
    have e : i = K := by omega
    subst e
    rw [Run_loop]
    simp [xf66l0, hl, h1, h3, h5, h6, h8, h7, g]
  | k + 1, i, hk, tm, hl, h1, h3, h5, h6, h8, h7 => by
    have hi : i < K := by omega
    have hi' : (i : Int) < (K : Int) := by omega
    have hv := hn.resolve_left (by rintro ⟨_, rfl⟩; simp at hK; omega)
    subst hv
    have hw : IntKind.i64.wrap ((i : Int) + 1) = ((i + 1 : Nat) : Int) := by have := no.len; rw [wrap_i64] <;> omega
    have hs : IntKind.i64.wrap (sm net i + fat net i) = sm net (i + 1) := by
      have q1 := sm_in no.inr (i + 1) (by omega); have q2 := no.len
      have q3 : sm net (i + 1) = sm net i + fat net i := rfl
      rw [← q3, wrap_i64] <;> omega
    have g1 : (ints net)[i]? = some (.int .i64 (fat net i)) := ints_fat (by omega)
    have ih := loop66 hn no hK g k (i + 1) (by omega)
    rw [Run_loop]
    simp [xf66l0, hl, h1, h3, h5, h6, h8, h7, g, hi, hi', g1, hw, hs]
    exact ih _ (by simp [hl]) (by simp [hl, h1]) (by simp [hl, h3]) (by simp [hl, h5]) (by simp [hl, h6]) (by simp [hl]) (by simp [hl])
include hX
theorem z66 {a : List Kn} {u : AVal} (ha : KL a u) (t : Tab a) {net : List Int} {v : AVal} (hn : DL net v) (no : NetOk net) {r : Rd} (ro : RdOk a net.length r) (σ : Store) : Run X (.call 66) [.agg [u], v, r.enc] σ = some (.ret, [(perm a net r).enc], σ) := by
  obtain ⟨tick, lo, hi⟩ := r
  obtain ⟨r0, r1, r2, r3, r4⟩ := ro
  simp only at r0 r1 r2 r3 r4
  obtain ⟨K, rfl⟩ := Int.eq_ofNat_of_zero_le r0
  have hK : K ≤ net.length := by omega
  have t1 := t20 hX.read.tab ha t r2; have t2 := t20 hX.read.tab ha t r3
  have b1 := vol_in t r2; have b2 := vol_in t r3
  have sb := sm_in no.inr K hK; have hl200 := no.len
  have w1 : IntKind.i64.wrap ((volR a lo).2 - sm net K) = (volR a lo).2 - sm net K := by rw [wrap_i64] <;> omega
  have w2 : IntKind.i64.wrap ((volR a hi).1 - sm net K) = (volR a hi).1 - sm net K := by rw [wrap_i64] <;> omega
  refine call3 (v := (perm a net ((K : Int), lo, hi)).enc) hX.h66 (by simp [AVal.strip, stripL, AVal.free, freeL, ha.strip, ha.free]) (by rw [hn.strip]; exact hn.free) rfl (by decide) (fun tm hl h0 h1 h2 => ?_) rfl σ
  simp only [AVal.strip, stripL, ha.strip, Rd.enc] at h0 h2
  rw [hn.strip] at h1
  replace hl : tm.length = 38 := hl
  have hL := fun tm (σ : Store) (g : σ.get 1 = some (.cells [.int .i64 K, .int .i64 lo, .int .i64 hi])) h1 h2 h3 h4 h5 h6 (h7 : XOpd.eval tm (.t 7) = .int .i64 0) => out_of (loop66 (X := X) hn no hK g K 0 (by omega) tm h1 h2 h3 h4 h5 h6 h7)
  simp only [rng] at t1 t2
  unfold Gives
  simp (maxDischargeDepth := 9) [xf66, hl, h0, h1, h2, hL, t1, t2, w1, w2, sm, perm, Kn.enc, ha.strip, ha.free, ha.one, Store.empty, Store.new, Store.put, Store.get, look, putL, setR, Store.only, Store.merge, touch, wrote, upTo, isIn, okRec, hits, capsOf, xcaps, stripL, AVal.strip, freeL, AVal.free, fillR, chunks, mkV, List.filter]
omit hX
/-- The loop's frame. -/
def I36 (P : List Kn) (u v : AVal) (l : List Rd) (i : Nat) (tm : List AVal) (σ : Store) : Prop :=
  tm.length = 48 ∧ XOpd.eval tm (.t 1) = v ∧ XOpd.eval tm (.t 2) = .list 3 (rds l) none ∧ XOpd.eval tm (.t 3) = .ptr 0 0 ∧ XOpd.eval tm (.t 6) = .ptr 1 0 ∧ XOpd.eval tm (.t 8) = .ptr 2 0 ∧ XOpd.eval tm (.t 9) = .int .i64 i ∧
  σ.get 0 = some (.cells [u]) ∧ σ.get 1 = some (.cells [.int .i64 0, .int .i64 0]) ∧ σ.get 2 = some (.cells [.int .i64 (comN P i).1, .int .i64 (comN P i).2]) ∧ 3 ≤ σ.next
include hX
theorem loop36 {a : List Kn} {u : AVal} (ha : KL a u) (t : Tab a) {net : List Int} {v : AVal} (hn : DL net v) (no : NetOk net) {l : List Rd} (hr : ∀ i, i < l.length → RdOk a net.length (rat l i)) (hl1 : l.length ≤ 1000000) : ∀ (k i : Nat), i + k = l.length → ∀ (tm : List AVal) (σ : Store), I36 (perms a net l) u v l i tm σ →
    Ends (Run X (.code (.loop xf36l0)) tm σ) (.exit 0) fun tm' σ' => I36 (perms a net l) u v l l.length tm' σ'
  | 0, i, hk, tm, σ, ⟨hl, h1, h2, h3, h6, h8, h9, g0, g1, g2, nx⟩ => by
    have e : i = l.length := by omega
    subst e
    rw [Run_loop]
    simp [xf36l0, I36, hl, h1, h2, h3, h6, h8, h9, g0, g1, g2, nx]
  | k + 1, i, hk, tm, σ, ⟨hl, h1, h2, h3, h6, h8, h9, g0, g1, g2, nx⟩ => by
    have hi : i < l.length := by omega
    have hi' : (i : Int) < l.length := by omega
    obtain ⟨N, hN⟩ : ∃ N, σ.next = N + 3 := ⟨σ.next - 3, by omega⟩
    have hw : IntKind.i64.wrap ((i : Int) + 1) = ((i + 1 : Nat) : Int) := by rw [wrap_i64] <;> omega
    have q1 := rds_getElem? (l := l) (i := i) hi
    have z66 := z66 hX ha t hn no (hr i hi)
    have hp := perms_kat (a := a) (net := net) hi
    have hc : comN (perms a net l) (i + 1) = mm (comN (perms a net l) i) (perm a net (rat l i)) := by simp only [comN, hp]
    have ih := loop36 ha t hn no hr hl1 k (i + 1) (by omega)
    simp only [Rd.enc, Kn.enc] at q1 z66
    have key : Ends (Run X (.code xf36l0) tm σ) .normal fun tm' σ' => I36 (perms a net l) u v l (i + 1) tm' σ' := by
      simp [xf36l0, I36, hl, h1, h2, h3, h6, h8, h9, g0, g1, g2, hN, hi, hi', q1, z66, hw, hc, mm, ha.one, ha.strip, ha.free, hn.one, hn.strip, hn.free, Rd.enc, Kn.enc, put_next, new_next, Store.get_new, Store.get_put, put_get, setR, only_get, merge_get', only_next, merge_next, upTo_self, upTo_one, merge_only, touch, wrote, isIn, okRec, hits, capsOf, xcaps, stripL, AVal.strip, freeL, AVal.free, fillR, chunks, mkV]
    obtain ⟨o1, o2⟩ := out_of key
    rw [Run_loop, o1, thenC_normal]
    exact ih _ _ o2
/-- What readings agree on, of the reference. -/
def agR (C : Kn) : AVal := .tup [.agg [.int .i64 (if emp C then 0 else C.1), .int .i64 (if emp C then 0 else C.2)], .bool (!emp C)]
theorem z36 {a : List Kn} {u : AVal} (ha : KL a u) (t : Tab a) {net : List Int} {v : AVal} (hn : DL net v) (no : NetOk net) {l : List Rd} {w : AVal} (hw : w.strip = .list 3 (rds l) none) (h0 : 0 < l.length) (hr : ∀ i, i < l.length → RdOk a net.length (rat l i)) (hl1 : l.length ≤ 1000000) (σ : Store) :
    Run X (.call 36) [.agg [u], v, w] σ = some (.ret, [agR (comN (perms a net l) l.length)], σ) := by
  refine call3 (v := agR (comN (perms a net l) l.length)) hX.h36 (by simp [AVal.strip, stripL, AVal.free, freeL, ha.strip, ha.free]) (by rw [hn.strip]; exact hn.free) (by rw [hw]; simp [AVal.free, rds_free]) (by decide) (fun tm hl a0 a1 a2 => ?_) (by simp [agR, AVal.strip, stripL, AVal.free, freeL]) σ
  simp only [AVal.strip, stripL, ha.strip] at a0
  rw [hn.strip] at a1
  rw [hw] at a2
  replace hl : tm.length = 48 := hl
  have z66 := z66 hX ha t hn no (hr 0 h0)
  have q1 := rds_getElem? (l := l) (i := 0) h0
  have hp := perms_kat (a := a) (net := net) h0
  have hc : comN (perms a net l) 1 = perm a net (rat l 0) := by simp only [comN, hp, mm_self]
  simp only [Rd.enc, Kn.enc] at q1 z66
  have e0 : xf36.body = .seq xf36.body.fst (.seq xf36.body.snd.fst (.seq (.seq xf36.body.snd.snd.fst.fst (.block 0 (.loop xf36l0))) xf36.body.snd.snd.snd)) := rfl
  unfold Gives
  rw [e0, seq_left, seq_left, Run_seq, seq_left, Run_seq]
  have eP : Ends (Run X (.code (.seq (.seq xf36.body.fst xf36.body.snd.fst) xf36.body.snd.snd.fst.fst)) tm Store.empty) .normal fun tm σ => I36 (perms a net l) u v l 1 tm σ := by
    simp [I36, xf36, XCode.fst, XCode.snd, hl, a0, a1, a2, q1, z66, hc, ha.strip, ha.free, ha.one, hn.one, hn.strip, hn.free, Rd.enc, Kn.enc, Store.empty, Store.new, Store.put, Store.get, look, putL, setR, Store.only, Store.merge, touch, wrote, upTo, isIn, okRec, hits, capsOf, xcaps, stripL, AVal.strip, freeL, AVal.free, fillR, chunks, mkV, List.filter]
  obtain ⟨o1, o2⟩ := out_of eP
  obtain ⟨q1, hl, h1, h2, h3, h6, h8, h9, g0, g1, g2, nx⟩ := out_of (loop36 hX ha t hn no hr hl1 (l.length - 1) 1 (by omega) _ _ o2)
  rw [o1, thenC_normal, Run_block, q1]
  generalize outT X (.loop xf36l0) _ _ = tm1 at *
  generalize outS X (.loop xf36l0) _ _ = σ1 at *
  cases hE : emp (comN (perms a net l) l.length)
  · have : ¬ (comN (perms a net l) l.length).2 < (comN (perms a net l) l.length).1 := by simpa [emp] using hE
    simp [xf36, XCode.fst, XCode.snd, hl, h6, h8, g1, g2, agR, hE, this, xresult, xrets, put_next, new_next, Store.get_new, Store.get_put, put_get, setR, only_get, merge_get', only_next, merge_next, upTo_self, upTo_one, merge_only, touch, wrote, isIn, okRec, hits, capsOf, xcaps, stripL, AVal.strip, freeL, AVal.free, fillR, chunks, mkV]
  · have : (comN (perms a net l) l.length).2 < (comN (perms a net l) l.length).1 := by simpa [emp] using hE
    simp [xf36, XCode.fst, XCode.snd, hl, h6, h8, g1, g2, agR, hE, this, xresult, xrets, put_next, new_next, Store.get_new, Store.get_put, put_get, setR, only_get, merge_get', only_next, merge_next, upTo_self, upTo_one, merge_only, touch, wrote, isIn, okRec, hits, capsOf, xcaps, stripL, AVal.strip, freeL, AVal.free, fillR, chunks, mkV]
omit hX
def F37 (u v : AVal) (l : List Rd) (tm : List AVal) (σ : Store) : Prop :=
  tm.length = 70 ∧ XOpd.eval tm (.t 1) = v ∧ XOpd.eval tm (.t 2) = .list 3 (rds l) none ∧ XOpd.eval tm (.t 3) = .ptr 0 0 ∧ σ.get 0 = some (.cells [u]) ∧ 1 ≤ σ.next
def R37 (L : List Int) (tm' : List AVal) : Prop := tm'.length = 70 ∧ (XOpd.eval tm' (.t 6)).strip = .list 1 (ints L) none ∧ XOpd.eval tm' (.t 7) = .bool true
include hX
theorem one36 {a : List Kn} {u : AVal} (ha : KL a u) (t : Tab a) {net : List Int} {v : AVal} (hn : DL net v) (no : NetOk net) {r : Rd} (hr : RdOk a net.length r) (tok : Option Nat) (σ : Store) :
    Run X (.call 36) [.agg [u], v, .list 3 [r.enc] tok] σ = some (.ret, [agR (perm a net r)], σ) := by
  have := z36 hX ha t hn no (l := [r]) (w := .list 3 [r.enc] tok) (by simp [AVal.strip, stripL, rds, Rd.enc]) (by simp) (fun i hi => by simp at hi; subst hi; exact hr) (by simp) σ
  simpa [comN, perms, kat, mm_self] using this
theorem two36 {a : List Kn} {u : AVal} (ha : KL a u) (t : Tab a) {net : List Int} {v : AVal} (hn : DL net v) (no : NetOk net) {r s : Rd} (hr : RdOk a net.length r) (hs : RdOk a net.length s) (tok : Option Nat) (σ : Store) :
    Run X (.call 36) [.agg [u], v, .list 3 [r.enc, s.enc] tok] σ = some (.ret, [agR (mm (perm a net r) (perm a net s))], σ) := by
  have := z36 hX ha t hn no (l := [r, s]) (w := .list 3 [r.enc, s.enc] tok) (by simp [AVal.strip, stripL, rds, Rd.enc]) (by simp) (fun i hi => by
    have : i = 0 ∨ i = 1 := by simp at hi; omega
    rcases this with rfl | rfl
    · exact hr
    · exact hs) (by simp) σ
  simpa [comN, perms, kat, mm_self] using this
theorem loop37a {a : List Kn} {u : AVal} (ha : KL a u) (t : Tab a) {net : List Int} {v : AVal} (hn : DL net v) (no : NetOk net) {l : List Rd} (hr : ∀ i, i < l.length → RdOk a net.length (rat l i)) (hl1 : l.length ≤ 1000000) : ∀ (k i : Nat), i + k = l.length → ∀ (tm : List AVal) (σ : Store), F37 u v l tm σ → XOpd.eval tm (.t 8) = .int .i64 i →
    Ends (Run X (.code (.loop xf37l0)) tm σ) (exO 0 (fe (P1 (perms a net l)) k i)) fun tm' σ' => (fe (P1 (perms a net l)) k i = none → F37 u v l tm' σ') ∧ ∀ j, fe (P1 (perms a net l)) k i = some j → R37 [(j : Int)] tm'
  | 0, i, hk, tm, σ, ⟨hl, h1, h2, h3, g0, nx⟩, h8 => by
    have e : i = l.length := by omega
    subst e
    rw [Run_loop]
    simp [xf37l0, F37, fe, exO, hl, h1, h2, h3, h8, g0, nx]
  | k + 1, i, hk, tm, σ, ⟨hl, h1, h2, h3, g0, nx⟩, h8 => by
    have hi : i < l.length := by omega
    have hi' : (i : Int) < l.length := by omega
    obtain ⟨N, hN⟩ : ∃ N, σ.next = N + 1 := ⟨σ.next - 1, by omega⟩
    have hw : IntKind.i64.wrap ((i : Int) + 1) = ((i + 1 : Nat) : Int) := by rw [wrap_i64] <;> omega
    have q1 := rds_getElem? (l := l) (i := i) hi
    have c36 := one36 hX ha t hn no (hr i hi)
    have hp := perms_kat (a := a) (net := net) hi
    have ih := loop37a ha t hn no hr hl1 k (i + 1) (by omega)
    simp only [Rd.enc, Kn.enc] at q1 c36
    cases hE : emp (perm a net (rat l i))
    · have hf : fe (P1 (perms a net l)) (k + 1) i = fe (P1 (perms a net l)) k (i + 1) := by simp only [fe, P1, hp, hE, Bool.false_eq_true, if_false]
      rw [hf]
      have key : Ends (Run X (.code xf37l0) tm σ) .normal fun tm' σ' => F37 u v l tm' σ' ∧ XOpd.eval tm' (.t 8) = .int .i64 ((i + 1 : Nat) : Int) := by
        simp [xf37l0, F37, hl, h1, h2, h3, h8, g0, hN, hi, hi', q1, c36, hE, agR, hw, ha.one, ha.strip, ha.free, hn.one, hn.strip, hn.free, Rd.enc, Kn.enc, put_next, new_next, Store.get_new, Store.get_put, put_get, setR, only_get, merge_get', only_next, merge_next, upTo_self, upTo_one, merge_only, touch, wrote, isIn, okRec, hits, capsOf, xcaps, stripL, AVal.strip, freeL, AVal.free, fillR, chunks, mkV]
      obtain ⟨o1, o2, o3⟩ := out_of key
      rw [Run_loop, o1, thenC_normal]
      exact ih _ _ o2 o3
    · have hf : fe (P1 (perms a net l)) (k + 1) i = some i := by simp only [fe, P1, hp, hE, if_true]
      rw [hf, Run_loop]
      simp [xf37l0, R37, exO, hl, h1, h2, h3, h8, g0, hN, hi, hi', q1, c36, hE, agR, hw, ints, ha.one, ha.strip, ha.free, hn.one, hn.strip, hn.free, Rd.enc, Kn.enc, put_next, new_next, Store.get_new, Store.get_put, put_get, setR, only_get, merge_get', only_next, merge_next, upTo_self, upTo_one, merge_only, touch, wrote, isIn, okRec, hits, capsOf, xcaps, stripL, AVal.strip, freeL, AVal.free, fillR, chunks, mkV]
theorem loop37b {a : List Kn} {u : AVal} (ha : KL a u) (t : Tab a) {net : List Int} {v : AVal} (hn : DL net v) (no : NetOk net) {l : List Rd} (hr : ∀ i, i < l.length → RdOk a net.length (rat l i)) (hl1 : l.length ≤ 1000000) {i : Nat} (hi : i < l.length) : ∀ (k j : Nat), j + k = l.length → ∀ (tm : List AVal) (σ : Store), F37 u v l tm σ → XOpd.eval tm (.t 11) = .int .i64 i → XOpd.eval tm (.t 12) = .int .i64 j →
    Ends (Run X (.code (.loop xf37l1)) tm σ) (exO 4 (fe (P2 (perms a net l) i) k j)) fun tm' σ' => (fe (P2 (perms a net l) i) k j = none → F37 u v l tm' σ' ∧ XOpd.eval tm' (.t 11) = .int .i64 i) ∧ ∀ m, fe (P2 (perms a net l) i) k j = some m → R37 [(i : Int), (m : Int)] tm'
  | 0, j, hk, tm, σ, ⟨hl, h1, h2, h3, g0, nx⟩, h11, h12 => by
    have e : j = l.length := by omega
    subst e
    rw [Run_loop]
    simp [xf37l1, F37, fe, exO, hl, h1, h2, h3, h11, h12, g0, nx]
  | k + 1, j, hk, tm, σ, ⟨hl, h1, h2, h3, g0, nx⟩, h11, h12 => by
    have hj : j < l.length := by omega
    have hj' : (j : Int) < l.length := by omega
    obtain ⟨N, hN⟩ : ∃ N, σ.next = N + 1 := ⟨σ.next - 1, by omega⟩
    have hw : IntKind.i64.wrap ((j : Int) + 1) = ((j + 1 : Nat) : Int) := by rw [wrap_i64] <;> omega
    have q1 := rds_getElem? (l := l) (i := i) hi
    have q2 := rds_getElem? (l := l) (i := j) hj
    have c36 := two36 hX ha t hn no (hr i hi) (hr j hj)
    have hp := perms_kat (a := a) (net := net) hi
    have hp2 := perms_kat (a := a) (net := net) hj
    have ih := loop37b ha t hn no hr hl1 hi k (j + 1) (by omega)
    simp only [Rd.enc, Kn.enc] at q1 q2 c36
    cases hE : emp (mm (perm a net (rat l i)) (perm a net (rat l j)))
    · have hf : fe (P2 (perms a net l) i) (k + 1) j = fe (P2 (perms a net l) i) k (j + 1) := by simp only [fe, P2, hp, hp2, hE, Bool.false_eq_true, if_false]
      rw [hf]
      have key : Ends (Run X (.code xf37l1) tm σ) .normal fun tm' σ' => F37 u v l tm' σ' ∧ XOpd.eval tm' (.t 11) = .int .i64 i ∧ XOpd.eval tm' (.t 12) = .int .i64 ((j + 1 : Nat) : Int) := by
        simp [xf37l1, F37, hl, h1, h2, h3, h11, h12, g0, hN, hi, hj, hj', q1, q2, c36, hE, agR, hw, ha.one, ha.strip, ha.free, hn.one, hn.strip, hn.free, Rd.enc, Kn.enc, put_next, new_next, Store.get_new, Store.get_put, put_get, setR, only_get, merge_get', only_next, merge_next, upTo_self, upTo_one, merge_only, touch, wrote, isIn, okRec, hits, capsOf, xcaps, stripL, AVal.strip, freeL, AVal.free, fillR, chunks, mkV]
      obtain ⟨o1, o2, o3, o4⟩ := out_of key
      rw [Run_loop, o1, thenC_normal]
      exact ih _ _ o2 o3 o4
    · have hf : fe (P2 (perms a net l) i) (k + 1) j = some j := by simp only [fe, P2, hp, hp2, hE, if_true]
      rw [hf, Run_loop]
      simp [xf37l1, R37, exO, hl, h1, h2, h3, h11, h12, g0, hN, hi, hj, hj', q1, q2, c36, hE, agR, hw, ints, ha.one, ha.strip, ha.free, hn.one, hn.strip, hn.free, Rd.enc, Kn.enc, put_next, new_next, Store.get_new, Store.get_put, put_get, setR, only_get, merge_get', only_next, merge_next, upTo_self, upTo_one, merge_only, touch, wrote, isIn, okRec, hits, capsOf, xcaps, stripL, AVal.strip, freeL, AVal.free, fillR, chunks, mkV]
theorem loop37c {a : List Kn} {u : AVal} (ha : KL a u) (t : Tab a) {net : List Int} {v : AVal} (hn : DL net v) (no : NetOk net) {l : List Rd} (hr : ∀ i, i < l.length → RdOk a net.length (rat l i)) (hl1 : l.length ≤ 1000000) : ∀ (k i : Nat), i + k = l.length → ∀ (tm : List AVal) (σ : Store), F37 u v l tm σ → XOpd.eval tm (.t 11) = .int .i64 i →
    Ends (Run X (.code (.loop xf37l2)) tm σ) (exO 2 (fp (P2 (perms a net l)) l.length k i)) fun tm' σ' => (fp (P2 (perms a net l)) l.length k i = none → F37 u v l tm' σ') ∧ ∀ m j, fp (P2 (perms a net l)) l.length k i = some (m, j) → R37 [(m : Int), (j : Int)] tm'
  | 0, i, hk, tm, σ, ⟨hl, h1, h2, h3, g0, nx⟩, h11 => by
    have e : i = l.length := by omega
    subst e
    rw [Run_loop]
    simp [xf37l2, F37, fp, exO, hl, h1, h2, h3, h11, g0, nx]
  | k + 1, i, hk, tm, σ, ⟨hl, h1, h2, h3, g0, nx⟩, h11 => by
    have hi : i < l.length := by omega
    have hi' : (i : Int) < l.length := by omega
    have hw : IntKind.i64.wrap ((i : Int) + 1) = ((i + 1 : Nat) : Int) := by rw [wrap_i64] <;> omega
    have ih := loop37c ha t hn no hr hl1 k (i + 1) (by omega)
    have hb := loop37b hX ha t hn no hr hl1 hi (l.length - (i + 1)) (i + 1) (by omega)
    have hL := fun tm (σ : Store) (y1 : tm.length = 70) (y2 : XOpd.eval tm (.t 1) = v) (y3 : XOpd.eval tm (.t 2) = .list 3 (rds l) none) (y4 : XOpd.eval tm (.t 3) = .ptr 0 0) (y5 : σ.get 0 = some (.cells [u])) (y6 : 1 ≤ σ.next) (h2 : XOpd.eval tm (.t 11) = .int .i64 i) (h3 : XOpd.eval tm (.t 12) = .int .i64 ((i + 1 : Nat) : Int)) => out_of (hb tm σ ⟨y1, y2, y3, y4, y5, y6⟩ h2 h3)
    cases hF : fe (P2 (perms a net l) i) (l.length - (i + 1)) (i + 1) with
    | none =>
      have hf : fp (P2 (perms a net l)) l.length (k + 1) i = fp (P2 (perms a net l)) l.length k (i + 1) := by simp only [fp, hF]
      rw [hf]
      rw [hF] at hL
      simp only [exO, true_implies, reduceCtorEq, false_implies, implies_true, and_true, F37] at hL
      have key : Ends (Run X (.code xf37l2) tm σ) .normal fun tm' σ' => F37 u v l tm' σ' ∧ XOpd.eval tm' (.t 11) = .int .i64 ((i + 1 : Nat) : Int) := by
        simp (maxDischargeDepth := 9) [xf37l2, F37, hl, h1, h2, h3, h11, g0, nx, hi, hi', hw, hL]
      obtain ⟨o1, o2, o3⟩ := out_of key
      rw [Run_loop, o1, thenC_normal]
      exact ih _ _ o2 o3
    | some j =>
      have hf : fp (P2 (perms a net l)) l.length (k + 1) i = some (i, j) := by simp only [fp, hF]
      rw [hf]
      rw [hF] at hL
      simp only [exO, true_implies, reduceCtorEq, false_implies, true_and, Option.some.injEq, forall_eq', R37] at hL
      rw [Run_loop]
      simp (maxDischargeDepth := 9) [xf37l2, R37, exO, hl, h1, h2, h3, h11, g0, nx, hi, hi', hw, hL]
theorem z37 {a : List Kn} {u : AVal} (ha : KL a u) (t : Tab a) {net : List Int} {v : AVal} (hn : DL net v) (no : NetOk net) {l : List Rd} {w : AVal} (hw : RL l w) (h0 : 0 < l.length) (hr : ∀ i, i < l.length → RdOk a net.length (rat l i)) (hl1 : l.length ≤ 1000000) (σ : Store) :
    Run X (.call 37) [.agg [u], v, w] σ = some (.ret, [.tup [intsV (conP (perms a net l)).1, .bool (decide ((conP (perms a net l)).2 = 0))]], σ) := by
  have := call3E (X := X) (f := 37) (a := .agg [u]) (b := v) (c := w) (Φ := fun r => r = .tup [intsV (conP (perms a net l)).1, .bool (decide ((conP (perms a net l)).2 = 0))]) hX.h37 (by simp [AVal.strip, stripL, AVal.free, freeL, ha.strip, ha.free]) (by rw [hn.strip]; exact hn.free) (by rw [hw.strip]; exact hw.free) (by decide) (fun tm hl a0 a1 a2 => ?_)
  · obtain ⟨r, hr, hrun⟩ := this
    subst hr; exact hrun σ
  simp only [AVal.strip, stripL, ha.strip] at a0
  rw [hn.strip] at a1
  rw [hw.strip, hw.list h0] at a2
  replace hl : tm.length = 70 := hl
  have hP : (perms a net l).length = l.length := by simp [perms]
  have lc := fun tm (σ : Store) (y1 : tm.length = 70) (y2 : XOpd.eval tm (.t 1) = v) (y3 : XOpd.eval tm (.t 2) = .list 3 (rds l) none) (y4 : XOpd.eval tm (.t 3) = .ptr 0 0) (y5 : σ.get 0 = some (.cells [u])) (y6 : 1 ≤ σ.next) (h2 : XOpd.eval tm (.t 11) = .int .i64 0) => out_of (loop37c hX ha t hn no hr hl1 l.length 0 (by omega) tm σ ⟨y1, y2, y3, y4, y5, y6⟩ h2)
  have e0 : xf37.body = .seq xf37.body.fst (.seq (.seq xf37.body.snd.fst.fst (.block 0 (.loop xf37l0))) xf37.body.snd.snd) := rfl
  unfold GivesE
  rw [e0, seq_left, Run_seq, seq_left, Run_seq]
  have eP : Ends (Run X (.code (.seq xf37.body.fst xf37.body.snd.fst.fst)) tm Store.empty) .normal fun tm σ => F37 u v l tm σ ∧ XOpd.eval tm (.t 8) = .int .i64 (0 : Nat) := by
    simp [F37, xf37, XCode.fst, XCode.snd, hl, a0, a1, a2, ha.strip, ha.free, ha.one, Store.empty, Store.new, Store.put, Store.get, look, putL, setR, Store.only, Store.merge, touch, wrote, upTo, isIn, okRec, hits, capsOf, xcaps, stripL, AVal.strip, freeL, AVal.free, fillR, chunks, mkV, List.filter]
  obtain ⟨o1, o2, o3⟩ := out_of eP
  obtain ⟨q1, q2, q3⟩ := out_of (loop37a hX ha t hn no hr hl1 l.length 0 (by omega) _ _ o2 o3)
  rw [o1, thenC_normal, Run_block, q1]
  generalize outT X (.loop xf37l0) _ _ = tm1 at *
  generalize outS X (.loop xf37l0) _ _ = σ1 at *
  unfold conP
  rw [hP]
  cases hA : fe (P1 (perms a net l)) l.length 0 with
  | some i =>
    obtain ⟨x1, x2, x3⟩ := q3 i hA
    simp [xf37, XCode.fst, XCode.snd, exO, x1, x2, x3, xresult, xrets, givesE, holdsO, Told, AVal.strip, stripL, AVal.free, freeL, ints_free, ha.one, ha.strip, ha.free, intsV, put_next, new_next, Store.get_new, Store.get_put, put_get, setR, only_get, merge_get', only_next, merge_next, upTo_self, upTo_one, merge_only, touch, wrote, isIn, okRec, hits, capsOf, xcaps, stripL, AVal.strip, freeL, AVal.free, fillR, chunks, mkV]
  | none =>
    obtain ⟨x1, x2, x3, x4, x5, x6⟩ := q2 hA
    cases hC : fp (P2 (perms a net l)) l.length l.length 0 with
    | some ij =>
      obtain ⟨i, j⟩ := ij
      have lc := fun tm (σ : Store) y1 y2 y3 y4 y5 y6 h2 => And.intro (lc tm σ y1 y2 y3 y4 y5 y6 h2).1 ((lc tm σ y1 y2 y3 y4 y5 y6 h2).2.2 i j hC)
      rw [hC] at lc
      simp only [exO, R37] at lc
      simp (maxDischargeDepth := 24) [xf37, XCode.fst, XCode.snd, exO, x1, x2, x3, x4, x5, x6, lc, xresult, xrets, givesE, holdsO, Told, AVal.strip, stripL, AVal.free, freeL, ints_free, ha.one, ha.strip, ha.free, intsV, put_next, new_next, Store.get_new, Store.get_put, put_get, setR, only_get, merge_get', only_next, merge_next, upTo_self, upTo_one, merge_only, touch, wrote, isIn, okRec, hits, capsOf, xcaps, stripL, AVal.strip, freeL, AVal.free, fillR, chunks, mkV]
    | none =>
      rw [hC] at lc
      simp only [exO, true_implies, reduceCtorEq, false_implies, implies_true, and_true, F37] at lc
      simp (maxDischargeDepth := 24) [xf37, XCode.fst, XCode.snd, exO, x1, x2, x3, x4, x5, x6, lc, xresult, xrets, givesE, holdsO, Told, AVal.strip, stripL, AVal.free, freeL, ints_free, ha.one, ha.strip, ha.free, intsV, put_next, new_next, Store.get_new, Store.get_put, put_get, setR, only_get, merge_get', only_next, merge_next, upTo_self, upTo_one, merge_only, touch, wrote, isIn, okRec, hits, capsOf, xcaps, stripL, AVal.strip, freeL, AVal.free, fillR, chunks, mkV]
omit hX in
theorem loop38 {x : List Int} {v w : AVal} (hv : DL x v) (hw : DL x w) (hn : x.length ≤ 1000000) : ∀ (k i : Nat), i + k = x.length → ∀ (tm : List AVal) (σ : Store), tm.length = 26 → XOpd.eval tm (.t 0) = v → XOpd.eval tm (.t 1) = w → XOpd.eval tm (.t 5) = .int .i64 i →
    Ends (Run X (.code (.loop xf38l0)) tm σ) (.exit 0) fun tm' _ => tm'.length = 26
  | 0, i, hk, tm, σ, hl, h0, h1, h5 => by
    rw [Run_loop]
    have hi : ¬ (i : Int) < x.length := by omega
    simp [xf38l0, hl, h0, h5, hv.xlen, hi]
  | k + 1, i, hk, tm, σ, hl, h0, h1, h5 => by
    have hi : (i : Int) < x.length := by omega
    have hi' : i < x.length := by omega
    have ev := hv.list (by omega); have ew := hw.list (by omega)
    have hwr : IntKind.i64.wrap ((i : Int) + 1) = ((i + 1 : Nat) : Int) := by rw [wrap_i64] <;> omega
    have g1 := ints_fat (l := x) (i := i) hi'
    have ih := loop38 hv hw hn k (i + 1) (by omega)
    subst ev; subst ew
    rw [Run_loop]
    simp [xf38l0, hl, h0, h1, h5, hi, hi', g1, hwr, put_next, new_next, Store.get_new, Store.get_put, put_get, setR, only_get, merge_get', only_next, merge_next, upTo_self, upTo_one, merge_only, touch, wrote, isIn, okRec, hits, capsOf, xcaps, stripL, AVal.strip, freeL, AVal.free, fillR, chunks, mkV]
    exact ih _ _ (by simp [hl]) (by simp [hl, h0]) (by simp [hl, h1]) (by simp [hl])
theorem z38 {x : List Int} {v w : AVal} (hv : DL x v) (hw : DL x w) (hn : x.length ≤ 1000000) (σ : Store) : Run X (.call 38) [v, w] σ = some (.ret, [.bool true], σ) := by
  refine call2 (v := .bool true) hX.h38 (by rw [hv.strip]; exact hv.free) (by rw [hw.strip]; exact hw.free) (by decide) (fun tm hl h0 h1 => ?_) rfl σ
  rw [hv.strip] at h0
  rw [hw.strip] at h1
  replace hl : tm.length = 26 := hl
  have hL : ∀ (tm : List AVal) (σ : Store), tm.length = 26 → XOpd.eval tm (.t 0) = v → XOpd.eval tm (.t 1) = w → XOpd.eval tm (.t 5) = .int .i64 0 → Run X (.code (.loop xf38l0)) tm σ = some (.exit 0, outT X (.loop xf38l0) tm σ, outS X (.loop xf38l0) tm σ) ∧ (outT X (.loop xf38l0) tm σ).length = 26 := fun tm σ h1 h2 h3 h4 => out_of (loop38 (X := X) hv hw hn x.length 0 (by omega) tm σ h1 h2 h3 h4)
  unfold Gives
  simp (maxDischargeDepth := 9) [xf38, hl, h0, h1, hL, hv.xlen, hw.xlen, Store.empty, Store.new, Store.put, Store.get, look, putL, setR, Store.only, Store.merge, touch, wrote, upTo, isIn, okRec, hits, capsOf, xcaps, stripL, AVal.strip, freeL, AVal.free, fillR, chunks, mkV, List.filter]
end
end Go.Proofs.YtbgjmclpahganaaGreat.Eng

/-
  READINGS: the law of what readings agree on.
-/
namespace Go.Proofs.YtbgjmclpahganaaGreat.Eng
set_option linter.unusedSimpArgs false
set_option linter.unusedVariables false
section
variable {X : FuncId → Option XFunc} (hX : VRdsCode X)
include hX
theorem y10 (n : Int) (σ : Store) : Run X (.call 10) [.int .i64 n] σ = some (.ret, [.bool (decide (n ≤ 24) || (decide (200 < n) && decide (n ≤ 202)))], σ) := by
  refine call1 (v := .bool (decide (n ≤ 24) || (decide (200 < n) && decide (n ≤ 202)))) hX.h10 rfl (by decide) (fun tm hl h0 => ?_) rfl σ
  simp only [AVal.strip] at h0
  replace hl : tm.length = 13 := hl
  unfold Gives
  by_cases c1 : n ≤ 24
  · simp [xf10, hl, h0, c1, Store.empty, Store.new, Store.put, Store.get, look, putL, setR, Store.only, Store.merge, touch, wrote, upTo, isIn, okRec, hits, capsOf, xcaps, stripL, AVal.strip, freeL, AVal.free, fillR, chunks, mkV, List.filter]
  · by_cases c2 : 200 < n <;> simp [xf10, hl, h0, c1, c2, Store.empty, Store.new, Store.put, Store.get, look, putL, setR, Store.only, Store.merge, touch, wrote, upTo, isIn, okRec, hits, capsOf, xcaps, stripL, AVal.strip, freeL, AVal.free, fillR, chunks, mkV, List.filter]
set_option maxHeartbeats 4000000 in
theorem z7 (hA : ∀ σ, Run X (.call 8) [] σ = some (.ret, [.bool true], σ)) {a : List Kn} {u : AVal} (ha : KL a u) {net : List Int} {v : AVal} (hn : DL net v) {l : List Rd} {w : AVal} (hw : RL l w) (σ : Store) :
    Run X (.call 7) [.agg [u], v, w] σ = some (.ret, [.bool true], σ) := by
  have hR := hX.read
  refine call3 (v := .bool true) hX.h7 (by simp [AVal.strip, stripL, AVal.free, freeL, ha.strip, ha.free]) (by rw [hn.strip]; exact hn.free) (by rw [hw.strip]; exact hw.free) (by decide) (fun tm hl a0 a1 a2 => ?_) rfl σ
  simp only [AVal.strip, stripL, ha.strip] at a0
  rw [hn.strip] at a1
  rw [hw.strip] at a2
  replace hl : tm.length = 123 := hl
  have t12 := t12 hR.tab ha
  have y10 := y10 hX net.length
  unfold Gives
  by_cases few : a.length ≤ 12
  case neg => simp [xf7, hl, a0, a1, a2, hA, t12, few, ha.one, ha.strip, ha.free, Store.empty, Store.new, Store.put, Store.get, look, putL, setR, Store.only, Store.merge, touch, wrote, upTo, isIn, okRec, hits, capsOf, xcaps, stripL, AVal.strip, freeL, AVal.free, fillR, chunks, mkV, List.filter]
  by_cases sh : (net.length : Int) ≤ 24 ∨ (200 < (net.length : Int) ∧ (net.length : Int) ≤ 202)
  case neg =>
    have : (decide ((net.length : Int) ≤ 24) || (decide (200 < (net.length : Int)) && decide ((net.length : Int) ≤ 202))) = false := by
      simp only [Bool.or_eq_false_iff, Bool.and_eq_false_iff, decide_eq_false_iff_not]; omega
    rw [this] at y10
    simp [xf7, hl, a0, a1, a2, hA, t12, few, y10, hn.xlen, ha.one, ha.strip, ha.free, Store.empty, Store.new, Store.put, Store.get, look, putL, setR, Store.only, Store.merge, touch, wrote, upTo, isIn, okRec, hits, capsOf, xcaps, stripL, AVal.strip, freeL, AVal.free, fillR, chunks, mkV, List.filter]
  have shT : (decide ((net.length : Int) ≤ 24) || (decide (200 < (net.length : Int)) && decide ((net.length : Int) ≤ 202))) = true := by
    simp only [Bool.or_eq_true, Bool.and_eq_true, decide_eq_true_eq]; exact sh
  rw [shT] at y10
  by_cases l12 : (12 : Int) < l.length
  · simp [xf7, hl, a0, a1, a2, hA, t12, few, y10, l12, hn.xlen, hw.xlen, ha.one, ha.strip, ha.free, Store.empty, Store.new, Store.put, Store.get, look, putL, setR, Store.only, Store.merge, touch, wrote, upTo, isIn, okRec, hits, capsOf, xcaps, stripL, AVal.strip, freeL, AVal.free, fillR, chunks, mkV, List.filter]
  obtain ⟨u', ku', t14⟩ := t14 hR.tab ha (by omega)
  obtain ⟨v', kv', t50⟩ := t50 hR hn (by omega)
  obtain ⟨w', kw', t51⟩ := t51 hR hw (by omega)
  have t49 := t49 hR ku' (by omega) kv' (by omega) (l := l) (w := w') (.inr kw') (by omega)
  have t52 := t52 hR ku' (by omega) kv' (by omega) kw' (by omega)
  have t48 := t48 hR ha (by omega) hn (by omega) hw (by omega)
  simp only [ans, rng] at t49
  by_cases hE : allErr a net l = 0
  case neg =>
    have e1 : agr a net l = ((0, 0), allErr a net l) := by unfold agr; rw [if_pos hE]
    have e2 : con a net l = ([], allErr a net l) := by unfold con; rw [if_pos hE]
    rw [e1] at t49
    rw [e2] at t52
    simp [xf7, hl, a0, a1, a2, hA, t12, few, y10, l12, t14, t50, t51, t49, t52, t48, hE, intsV, hn.xlen, hw.xlen, ha.one, ha.strip, ha.free, hn.one, hn.strip, hn.free, hw.one, hw.strip, hw.free, ku'.one, ku'.strip, ku'.free, kv'.one, kv'.strip, kv'.free, kw'.one, kw'.strip, kw'.free, Store.empty, Store.new, Store.put, Store.get, look, putL, setR, Store.only, Store.merge, touch, wrote, upTo, isIn, okRec, hits, capsOf, xcaps, stripL, AVal.strip, freeL, AVal.free, fillR, chunks, mkV, List.filter]
  obtain ⟨t, no, h0, h10, hr⟩ := reads_ok hE
  have z36 := z36 hX ha t hn no (l := l) (w := w) (by rw [hw.strip]; exact hw.list h0) h0 hr (by omega)
  have hP : (perms a net l).length = l.length := by simp [perms]
  cases hC : emp (comN (perms a net l) l.length)
  · obtain ⟨n1, n2⟩ := none_of (P := perms a net l) (by rw [hP]; exact hC)
    have e1 : agr a net l = (comN (perms a net l) l.length, 0) := by simp [agr, hE, hC]
    have e2 : con a net l = ([], 12) := by
      unfold con; rw [if_neg (by simpa using hE)]; unfold conP; rw [n1]; simp only [n2]
    rw [e1] at t49
    rw [e2] at t52
    simp [xf7, hl, a0, a1, a2, hA, t12, few, y10, l12, t14, t50, t51, t49, t52, t48, z36, agR, hC, hE, intsV, hn.xlen, hw.xlen, ha.one, ha.strip, ha.free, hn.one, hn.strip, hn.free, hw.one, hw.strip, hw.free, ku'.one, ku'.strip, ku'.free, kv'.one, kv'.strip, kv'.free, kw'.one, kw'.strip, kw'.free, Store.empty, Store.new, Store.put, Store.get, look, putL, setR, Store.only, Store.merge, touch, wrote, upTo, isIn, okRec, hits, capsOf, xcaps, stripL, AVal.strip, freeL, AVal.free, fillR, chunks, mkV, List.filter]
  · have z37 := z37 hX ha t hn no hw h0 hr (by omega)
    have e1 : agr a net l = ((0, 0), 13) := by simp [agr, hE, hC]
    have hc2 : (conP (perms a net l)).2 = 0 := by
      unfold conP
      cases hA : fe (P1 (perms a net l)) (perms a net l).length 0 with
      | some i => rfl
      | none =>
        obtain ⟨i, j, hij⟩ := helly (P := perms a net l) (by rw [hP]; exact h0) (by rw [hP]; exact hC) hA
        rw [hij]
    have e2 : con a net l = ((conP (perms a net l)).1, 0) := by
      unfold con; rw [if_neg (by simpa using hE), ← hc2]
    rw [e1] at t49
    rw [e2] at t52
    rw [hc2] at z37
    have kd := intsV_dl (conP (perms a net l)).1
    have hlen : (conP (perms a net l)).1.length ≤ 1000000 := by
      unfold conP
      cases fe (P1 (perms a net l)) (perms a net l).length 0 with
      | some i => simp
      | none => cases fp (P2 (perms a net l)) (perms a net l).length (perms a net l).length 0 <;> simp
    have z38 := z38 hX kd kd hlen
    generalize intsV (conP (perms a net l)).1 = iv at *
    simp [xf7, hl, a0, a1, a2, hA, t12, few, y10, l12, t14, t50, t51, t49, t52, t48, z36, z37, z38, agR, hC, hE, hn.xlen, hw.xlen, ha.one, ha.strip, ha.free, hn.one, hn.strip, hn.free, hw.one, hw.strip, hw.free, ku'.one, ku'.strip, ku'.free, kv'.one, kv'.strip, kv'.free, kw'.one, kw'.strip, kw'.free, kd.one, kd.strip, kd.free, Store.empty, Store.new, Store.put, Store.get, look, putL, setR, Store.only, Store.merge, touch, wrote, upTo, isIn, okRec, hits, capsOf, xcaps, stripL, AVal.strip, freeL, AVal.free, fillR, chunks, mkV, List.filter]
end
end Go.Proofs.YtbgjmclpahganaaGreat.Eng
