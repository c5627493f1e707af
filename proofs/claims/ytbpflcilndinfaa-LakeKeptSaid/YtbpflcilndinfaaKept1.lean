/-
  RUNS, the law of what is kept.
-/
import Derived.Test.YtbpflcilndinfaaRun1
import Derived.Test.YtbpflcilndinfaaPair1
import Derived.Test.YtbpflcilndinfaaCode2
namespace Go.Proofs.Ytbpflcilndinfaa.Eng
set_option linter.unusedSimpArgs false
set_option linter.unusedVariables false
theorem spN_in2 {a b : List Kn} (ta : Tab a) (tb : Tab b) {r : Int} (r0 : 0 ≤ r) (r1 : r ≤ 1000) {s : Kn} {f : Rd} (v1 : isVol a s.1 = true) (v2 : isVol b s.2 = true) (hf : flErr f.1 f.2.1 f.2.2 = 0) : 0 ≤ spN a b r s f ∧ spN a b r s f ≤ 40000000 := by
  have e1 := ev_ok ta v1 r0 r1; have e2 := ev_ok tb v2 r0 r1
  have q1 := e1.e0; have q3 := e2.e0
  have w1 := isVol_iff.1 v1; have w2 := isVol_iff.1 v2
  have hfl := fl_ok hf
  unfold spN spV upV
  constructor <;> (repeat' split) <;> omega
structure Ok6 (a b : List Kn) (r : Int) (s : Kn) (l : List Rd) : Prop where
  ta : Tab a
  tb : Tab b
  r0 : 0 ≤ r
  r1 : r ≤ 1000
  v1 : isVol a s.1 = true
  v2 : isVol b s.2 = true
  fl : ∀ i, i < l.length → ferr l i = 0
  ok : ∀ j, j < l.length → seA a b r (stN a b r s l j) (rat l j) = 0
  len : l.length ≤ 24
/-- The loop's frame. -/
structure Fr6 (u v : AVal) (w vs : AVal) (tm : List AVal) : Prop where
  len : tm.length = 257
  t2 : XOpd.eval tm (.t 2) = w
  t3 : XOpd.eval tm (.t 3) = .ptr 0 0
  t4 : XOpd.eval tm (.t 4) = .ptr 1 0
  t6 : XOpd.eval tm (.t 6) = .bool false
  t7 : XOpd.eval tm (.t 7) = vs
  t8 : XOpd.eval tm (.t 8) = .ptr 2 0
  t10 : XOpd.eval tm (.t 10) = .ptr 3 0
  t12 : XOpd.eval tm (.t 12) = .ptr 4 0
structure Me6 (u v : AVal) (r : Int) (s x y z : Kn) (σ : Store) : Prop where
  nx : 5 ≤ σ.next
  g0 : σ.get 0 = some (.cells [u, v, .int .i64 r])
  g1 : σ.get 1 = some (.cells [.int .i64 s.1, .int .i64 s.2])
  g2 : σ.get 2 = some (.cells [.int .i64 x.1, .int .i64 x.2])
  g3 : σ.get 3 = some (.cells [.int .i64 y.1, .int .i64 y.2])
  g4 : σ.get 4 = some (.cells [.int .i64 z.1, .int .i64 z.2])
theorem inS_in {l : List Rd} (hf : ∀ i, i < l.length → ferr l i = 0) : ∀ {i : Nat}, i ≤ l.length → 0 ≤ inS l i ∧ inS l i ≤ 20000000 * i
  | 0, _ => by simp [inS]
  | i + 1, h => by
    have ih := inS_in hf (i := i) (by omega)
    have := fl_ok (hf i (by omega))
    simp only [inS]
    push_cast
    omega
section
variable {X : FuncId → Option XFunc} (hL : LawDCode X)
include hL
set_option maxHeartbeats 4000000 in
theorem loop6 {a b : List Kn} {u v : AVal} (p : PV a b u v) {r : Int} {s : Kn} {l : List Rd} {w : AVal} (hw : RL l w) (o : Ok6 a b r s l) {x : Kn} {vs : AVal} (hvs : KL (sts a b r s l l.length) vs) : ∀ (k i : Nat), i + k = l.length → ∀ (tm : List AVal) (σ : Store), Fr6 u v w vs tm → XOpd.eval tm (.t 11) = .int .i64 (inS l i) → XOpd.eval tm (.t 13) = .int .i64 i → Me6 u v r s x (stN a b r s l i) (evS a b r s l i, spS a b r s l i) σ →
    Ends (Run X (.code (.loop xf6l0)) tm σ) (.exit 0) fun tm' σ' => Fr6 u v w vs tm' ∧ XOpd.eval tm' (.t 11) = .int .i64 (inS l l.length) ∧ Me6 u v r s x (stN a b r s l l.length) (evS a b r s l l.length, spS a b r s l l.length) σ'
  | 0, i, hk, tm, σ, fr, h11, h13, me => by
    have e : i = l.length := by omega
    subst e
    have hl := fr.len; have h2 := fr.t2
    rw [Run_loop]
    simp [xf6l0, hl, h2, h13, hw.xlen]
    refine ⟨⟨?_, ?_, ?_, ?_, ?_, ?_, ?_, ?_, ?_⟩, ?_, me⟩
    · simp [hl]
    · simp [hl, fr.t2]
    · simp [hl, fr.t3]
    · simp [hl, fr.t4]
    · simp [hl, fr.t6]
    · simp [hl, fr.t7]
    · simp [hl, fr.t8]
    · simp [hl, fr.t10]
    · simp [hl, fr.t12]
    · simp [hl, h11]
  | k + 1, i, hk, tm, σ, fr, h11, h13, me => by
    have hi : i < l.length := by omega
    have hi' : (i : Int) < l.length := by omega
    have hwl := hw.list (by omega)
    have hvl := hvs.list (by simp; omega)
    have hX := hL.run
    have hl := fr.len; have h2 := fr.t2; have h3 := fr.t3; have h4 := fr.t4; have h6 := fr.t6; have h7 := fr.t7; have h8 := fr.t8; have h10 := fr.t10; have h12 := fr.t12
    have g0 := me.g0; have g1 := me.g1; have g2 := me.g2; have g3 := me.g3; have g4 := me.g4; have nx5 := me.nx
    have hz := o.ok i hi
    have hz' : stepE a b r (stN a b r s l i).1 (stN a b r s l i).2 (rat l i).1 (rat l i).2.1 (rat l i).2.2 = 0 := hz
    obtain ⟨w1, w2⟩ := stN_vol o.ta o.tb o.v1 o.v2 (i := i) (l := l) (r := r) (fun j hj => o.ok j (by omega))
    obtain ⟨w3, w4⟩ := nx_vol o.ta o.tb hz
    have hb : bothErr a b r (stN a b r s l i).1 (stN a b r s l i).2 = 0 := by
      simp [bothErr, pairErr, o.ta.err, o.tb.err, w1, w2, wi, o.r0, o.r1]
    have hf := o.fl i hi
    have hf' : flErr (rat l i).1 (rat l i).2.1 (rat l i).2.2 = 0 := hf
    obtain ⟨u', v', p', t31⟩ := t31 hX.pair p r
    have t30 := t30 hX.pair p' r (stN a b r s l i).1 (stN a b r s l i).2 (rat l i).1 (rat l i).2.1 (rat l i).2.2
    have t43 := t43 hX.pair p (by have := o.ta.two; omega) (by have := o.tb.two; omega) r (nx a b r (stN a b r s l i) (rat l i)).1 (nx a b r (stN a b r s l i) (rat l i)).2
    have eE : stErr a b r (stN a b r s l i).1 (stN a b r s l i).2 (rat l i).1 (rat l i).2.1 (rat l i).2.2 = 0 := by simp [stErr, hb, hf', hz']
    have eS : stS a b r (stN a b r s l i).1 (stN a b r s l i).2 (rat l i).1 (rat l i).2.1 (rat l i).2.2 = .agg [.int .i64 (nx a b r (stN a b r s l i) (rat l i)).1, .int .i64 (nx a b r (stN a b r s l i) (rat l i)).2] := by simp [stS, stepS, hb, hf', hz', nx]
    have eL : stL a b r (stN a b r s l i).1 (stN a b r s l i).2 (rat l i).1 (rat l i).2.1 (rat l i).2.2 = .agg [.int .i64 (evN a b r (stN a b r s l i)), .int .i64 (spN a b r (stN a b r s l i) (rat l i))] := by simp [stL, stepL, hb, hf', hz', evN, spN]
    rw [eE, eS, eL] at t30
    rw [w3, w4] at t43
    have t25 := sea25 hX.pair.tab.sea
    have be := evN_in o.ta o.tb o.r0 o.r1 w1 w2
    have bp := spN_in2 o.ta o.tb o.r0 o.r1 w1 w2 hf'
    have c1 : wi (evN a b r (stN a b r s l i)) 0 2000000000 = true := by simp [wi]; omega
    have c2 : wi (spN a b r (stN a b r s l i) (rat l i)) 0 2000000000 = true := by simp [wi]; omega
    have sm := sums_in o.ta o.tb o.r0 o.r1 o.v1 o.v2 o.fl (i := i + 1) (by omega) (fun j hj => o.ok j (by omega))
    have hlen := o.len
    have ew : IntKind.i64.wrap (evS a b r s l i + evN a b r (stN a b r s l i)) = evS a b r s l (i + 1) := by
      show _ = evS a b r s l i + evN a b r (stN a b r s l i)
      have e : evS a b r s l (i + 1) = evS a b r s l i + evN a b r (stN a b r s l i) := rfl
      rw [e] at sm
      rw [wrap_i64] <;> omega
    have pw : IntKind.i64.wrap (spS a b r s l i + spN a b r (stN a b r s l i) (rat l i)) = spS a b r s l (i + 1) := by
      have e : spS a b r s l (i + 1) = spS a b r s l i + spN a b r (stN a b r s l i) (rat l i) := rfl
      rw [e] at sm ⊢
      rw [wrap_i64] <;> omega
    have iw := inS_in o.fl (i := i) (by omega)
    have fo := fl_ok hf'
    have i1 : IntKind.i64.wrap (inS l i + (rat l i).1) = inS l i + (rat l i).1 := by rw [wrap_i64] <;> omega
    have i2 : IntKind.i64.wrap (inS l i + (rat l i).1 + (rat l i).2.1) = inS l (i + 1) := by
      show _ = inS l i + (rat l i).1 + (rat l i).2.1
      rw [wrap_i64] <;> omega
    have hwr : IntKind.i64.wrap ((i : Int) + 1) = ((i + 1 : Nat) : Int) := by rw [wrap_i64] <;> omega
    have q1 := rds_getElem? (l := l) (i := i) hi
    have q2 := kns_getElem? (l := sts a b r s l l.length) (i := i) (by simpa using hi)
    rw [sts_kat hi] at q2
    have q2' : (kns (sts a b r s l l.length))[i]? = some (.agg [.int .i64 (nx a b r (stN a b r s l i) (rat l i)).1, .int .i64 (nx a b r (stN a b r s l i) (rat l i)).2]) := q2
    have kk : kat (sts a b r s l l.length) i = nx a b r (stN a b r s l i) (rat l i) := sts_kat hi
    simp only [Rd.enc] at q1
    have ha := p.ka; have hb' := p.kb; have ha' := p'.ka; have hb'' := p'.kb
    have n1 : ¬ 0 = σ.next := by omega
    have n2 : ¬ σ.next = 0 := by omega
    have n3 : ¬ 0 = σ.next + 1 := by omega
    have n4 : ¬ σ.next + 1 = 0 := by omega
    have n5 : ¬ 0 = σ.next + 1 + 1 := by omega
    have n6 : ¬ σ.next + 1 + 1 = 0 := by omega
    have n7 : ¬ 1 = σ.next := by omega
    have n8 : ¬ σ.next = 1 := by omega
    have n9 : ¬ 1 = σ.next + 1 := by omega
    have n10 : ¬ σ.next + 1 = 1 := by omega
    have n11 : ¬ 1 = σ.next + 1 + 1 := by omega
    have n12 : ¬ σ.next + 1 + 1 = 1 := by omega
    have n13 : ¬ 2 = σ.next := by omega
    have n14 : ¬ σ.next = 2 := by omega
    have n15 : ¬ 2 = σ.next + 1 := by omega
    have n16 : ¬ σ.next + 1 = 2 := by omega
    have n17 : ¬ 2 = σ.next + 1 + 1 := by omega
    have n18 : ¬ σ.next + 1 + 1 = 2 := by omega
    have n19 : ¬ 3 = σ.next := by omega
    have n20 : ¬ σ.next = 3 := by omega
    have n21 : ¬ 3 = σ.next + 1 := by omega
    have n22 : ¬ σ.next + 1 = 3 := by omega
    have n23 : ¬ 3 = σ.next + 1 + 1 := by omega
    have n24 : ¬ σ.next + 1 + 1 = 3 := by omega
    have n25 : ¬ 4 = σ.next := by omega
    have n26 : ¬ σ.next = 4 := by omega
    have n27 : ¬ 4 = σ.next + 1 := by omega
    have n28 : ¬ σ.next + 1 = 4 := by omega
    have n29 : ¬ 4 = σ.next + 1 + 1 := by omega
    have n30 : ¬ σ.next + 1 + 1 = 4 := by omega
    have n31 : ¬ σ.next = σ.next + 1 := by omega
    have n32 : ¬ σ.next = σ.next + 1 + 1 := by omega
    have n33 : ¬ σ.next + 1 = σ.next := by omega
    have n34 : ¬ σ.next + 1 = σ.next + 1 + 1 := by omega
    have n35 : ¬ σ.next + 1 + 1 = σ.next := by omega
    have n36 : ¬ σ.next + 1 + 1 = σ.next + 1 := by omega
    have ih := loop6 p hw o hvs k (i + 1) (by omega) (x := x)
    have key : Ends (Run X (.code xf6l0) tm σ) .normal fun tm' σ' => Fr6 u v w vs tm' ∧ XOpd.eval tm' (.t 11) = .int .i64 (inS l (i + 1)) ∧ XOpd.eval tm' (.t 13) = .int .i64 ((i + 1 : Nat) : Int) ∧ Me6 u v r s x (nx a b r (stN a b r s l i) (rat l i)) (evS a b r s l (i + 1), spS a b r s l (i + 1)) σ' := by
      rw [hwl] at h2
      rw [hvl] at h7
      simp [xf6l0, hl, h2, h3, h4, h6, h7, h8, h10, h11, h12, h13, g0, g1, g2, g3, g4, hi, hi', q1, q2', kk, t31, t30, t43, t25, c1, c2, ew, pw, i1, i2, hwr, Rd.enc, Kn.enc, ha.one, ha.strip, ha.free, hb'.one, hb'.strip, hb'.free, ha'.one, ha'.strip, ha'.free, hb''.one, hb''.strip, hb''.free, n1, n2, n3, n4, n5, n6, n7, n8, n9, n10, n11, n12, n13, n14, n15, n16, n17, n18, n19, n20, n21, n22, n23, n24, n25, n26, n27, n28, n29, n30, n31, n32, n33, n34, n35, n36, put_next, new_next, Store.get_new, Store.get_put, put_get, setR, only_get, merge_get', only_next, merge_next, upTo_self, upTo_one, merge_only, touch, wrote, isIn, okRec, hits, capsOf, xcaps, stripL, AVal.strip, freeL, AVal.free, fillR, chunks, mkV]
      refine ⟨⟨?_, ?_, ?_, ?_, ?_, ?_, ?_, ?_, ?_⟩, ?_⟩
      · simp [hl]
      · simp [hl, fr.t2]
      · simp [hl, fr.t3]
      · simp [hl, fr.t4]
      · simp [hl, fr.t6]
      · simp [hl, fr.t7]
      · simp [hl, fr.t8]
      · simp [hl, fr.t10]
      · simp [hl, fr.t12]
      refine ⟨?_, ?_, ?_, ?_, ?_, ?_⟩
      · simp [n1, n2, n3, n4, n5, n6, n7, n8, n9, n10, n11, n12, n13, n14, n15, n16, n17, n18, n19, n20, n21, n22, n23, n24, n25, n26, n27, n28, n29, n30, n31, n32, n33, n34, n35, n36, put_next, new_next, Store.get_new, Store.get_put, put_get, setR, only_get, merge_get', only_next, merge_next, upTo_self, upTo_one, merge_only, touch, wrote, isIn, okRec, hits, capsOf, xcaps, stripL, AVal.strip, freeL, AVal.free, fillR, chunks, mkV]; omega
      · simp [g0, n1, n2, n3, n4, n5, n6, n7, n8, n9, n10, n11, n12, n13, n14, n15, n16, n17, n18, n19, n20, n21, n22, n23, n24, n25, n26, n27, n28, n29, n30, n31, n32, n33, n34, n35, n36, put_next, new_next, Store.get_new, Store.get_put, put_get, setR, only_get, merge_get', only_next, merge_next, upTo_self, upTo_one, merge_only, touch, wrote, isIn, okRec, hits, capsOf, xcaps, stripL, AVal.strip, freeL, AVal.free, fillR, chunks, mkV]
      · simp [g1, n1, n2, n3, n4, n5, n6, n7, n8, n9, n10, n11, n12, n13, n14, n15, n16, n17, n18, n19, n20, n21, n22, n23, n24, n25, n26, n27, n28, n29, n30, n31, n32, n33, n34, n35, n36, put_next, new_next, Store.get_new, Store.get_put, put_get, setR, only_get, merge_get', only_next, merge_next, upTo_self, upTo_one, merge_only, touch, wrote, isIn, okRec, hits, capsOf, xcaps, stripL, AVal.strip, freeL, AVal.free, fillR, chunks, mkV]
      · simp [g2, n1, n2, n3, n4, n5, n6, n7, n8, n9, n10, n11, n12, n13, n14, n15, n16, n17, n18, n19, n20, n21, n22, n23, n24, n25, n26, n27, n28, n29, n30, n31, n32, n33, n34, n35, n36, put_next, new_next, Store.get_new, Store.get_put, put_get, setR, only_get, merge_get', only_next, merge_next, upTo_self, upTo_one, merge_only, touch, wrote, isIn, okRec, hits, capsOf, xcaps, stripL, AVal.strip, freeL, AVal.free, fillR, chunks, mkV]
      · simp [g3, n1, n2, n3, n4, n5, n6, n7, n8, n9, n10, n11, n12, n13, n14, n15, n16, n17, n18, n19, n20, n21, n22, n23, n24, n25, n26, n27, n28, n29, n30, n31, n32, n33, n34, n35, n36, put_next, new_next, Store.get_new, Store.get_put, put_get, setR, only_get, merge_get', only_next, merge_next, upTo_self, upTo_one, merge_only, touch, wrote, isIn, okRec, hits, capsOf, xcaps, stripL, AVal.strip, freeL, AVal.free, fillR, chunks, mkV]
      · simp [g4, n1, n2, n3, n4, n5, n6, n7, n8, n9, n10, n11, n12, n13, n14, n15, n16, n17, n18, n19, n20, n21, n22, n23, n24, n25, n26, n27, n28, n29, n30, n31, n32, n33, n34, n35, n36, put_next, new_next, Store.get_new, Store.get_put, put_get, setR, only_get, merge_get', only_next, merge_next, upTo_self, upTo_one, merge_only, touch, wrote, isIn, okRec, hits, capsOf, xcaps, stripL, AVal.strip, freeL, AVal.free, fillR, chunks, mkV]
    obtain ⟨o1, o2, o3, o4, o5⟩ := out_of key
    rw [Run_loop, o1, thenC_normal]
    exact ih _ _ o2 o3 o4 o5
end
end Go.Proofs.Ytbpflcilndinfaa.Eng

/-
  RUNS, the law of what is kept: its end.
-/
namespace Go.Proofs.Ytbpflcilndinfaa.Eng
set_option linter.unusedSimpArgs false
set_option linter.unusedVariables false
theorem rds_take (l : List Rd) (h : Nat) : (rds l).take h = rds (l.take h) := by simp [rds, List.map_take]
theorem rds_drop (l : List Rd) (h : Nat) : (rds l).drop h = rds (l.drop h) := by simp [rds, List.map_drop]
theorem kns_taken (l : List Kn) (h : Nat) : (kns l).take h = kns (l.take h) := by simp [kns, List.map_take]
theorem kns_dropped (l : List Kn) (h : Nat) : (kns l).drop h = kns (l.drop h) := by simp [kns, List.map_drop]
theorem fst_none {e : Nat → Int} : ∀ k i, (∀ j, i ≤ j → j < i + k → e j = 0) → (fstIx e k i).2 = 0
  | 0, i, _ => rfl
  | k + 1, i, h => by
    simp only [fstIx, h i (Nat.le_refl _) (by omega), if_true]
    exact fst_none k (i + 1) (fun j h1 h2 => h j (by omega) (by omega))
theorem seF_cases (a b : List Kn) (r : Int) (s : Kn) (l : List Rd) : ∀ k, seF a b r s l k = 0 ∨ seF a b r s l k = 22
  | 0 => .inl rfl
  | k + 1 => by
    simp only [seF]
    split
    · exact seF_cases a b r s l k
    · exact seA_cases _ _ _ _ _
theorem Ok6.sp {a b : List Kn} {r : Int} {s : Kn} {l : List Rd} (o : Ok6 a b r s l) : ∀ {i : Nat}, i ≤ l.length → 0 ≤ spS a b r s l i ∧ spS a b r s l i ≤ 40000000 * i
  | 0, _ => by simp [spS]
  | i + 1, hi => by
    have ih := o.sp (i := i) (by omega)
    obtain ⟨w1, w2⟩ := stN_vol o.ta o.tb o.v1 o.v2 (i := i) (l := l) (r := r) (fun j hj => o.ok j (by omega))
    have p := spN_in2 o.ta o.tb o.r0 o.r1 w1 w2 (o.fl i (by omega))
    simp only [spS]
    push_cast
    omega
theorem Ok6.run {a b : List Kn} {r : Int} {s : Kn} {l : List Rd} (o : Ok6 a b r s l) : runE a b r s l = 0 := by
  have hb : bothErr a b r s.1 s.2 = 0 := by simp [bothErr, pairErr, o.ta.err, o.tb.err, o.v1, o.v2, wi, o.r0, o.r1]
  have hL : listErr l = 0 := by
    unfold listErr
    rw [if_neg (by have := o.len; omega)]
    exact fst_none _ _ (fun i _ hi => o.fl i (by omega))
  unfold runE
  rw [if_neg (by simpa using hb), if_neg (by simpa using hL), seF_zero o.ok]
theorem Ok6.take {a b : List Kn} {r : Int} {s : Kn} {l : List Rd} (o : Ok6 a b r s l) {h : Nat} (hh : h ≤ l.length) : Ok6 a b r s (l.take h) := by
  have hl : (l.take h).length = h := by simp; omega
  refine ⟨o.ta, o.tb, o.r0, o.r1, o.v1, o.v2, fun i hi => ?_, fun j hj => ?_, by rw [hl]; have := o.len; omega⟩
  · unfold ferr; rw [rat_take (by omega)]; exact o.fl i (by omega)
  · rw [stN_take (by omega), rat_take (by omega)]; exact o.ok j (by omega)
theorem Ok6.drop {a b : List Kn} {r : Int} {s : Kn} {l : List Rd} (o : Ok6 a b r s l) {h : Nat} (hh : h ≤ l.length) : Ok6 a b r (stN a b r s l h) (l.drop h) := by
  have hl : (l.drop h).length = l.length - h := by simp
  obtain ⟨w1, w2⟩ := stN_vol o.ta o.tb o.v1 o.v2 (i := h) (l := l) (r := r) (fun j hj => o.ok j (by omega))
  refine ⟨o.ta, o.tb, o.r0, o.r1, w1, w2, fun i hi => ?_, fun j hj => ?_, by rw [hl]; have := o.len; omega⟩
  · unfold ferr; rw [rat_drop]; exact o.fl _ (by omega)
  · rw [stN_drop, rat_drop]; exact o.ok _ (by omega)
section
variable {X : FuncId → Option XFunc} (hL : LawDCode X)
include hL
set_option maxHeartbeats 4000000 in
theorem end6 {a b : List Kn} {u v : AVal} (p : PV a b u v) {r : Int} {s : Kn} {l : List Rd} {w : AVal} (hw : RL l w) (o : Ok6 a b r s l) {vs : AVal} (kvs : KL (sts a b r s l l.length) vs) (tm : List AVal) (σ : Store) (fr : Fr6 u v w vs tm) (h11 : XOpd.eval tm (.t 11) = .int .i64 (inS l l.length))
    (me : Me6 u v r s (evS a b r s l l.length, spS a b r s l l.length) (stN a b r s l l.length) (evS a b r s l l.length, spS a b r s l l.length) σ) :
    Ends (Run X (.code xf6.body.snd.snd.snd.snd.snd.snd.snd.snd.snd) tm σ) .ret fun tm' _ => XOpd.eval tm' (.t 6) = .bool true := by
  have hX := hL.run
  obtain ⟨ta, tb, r0, r1, v1, v2, _, _, hlen⟩ := id o
  obtain ⟨u', v', p', t31⟩ := t31 hX.pair p r
  have ha := p.ka; have hb := p.kb
  have ha' := p'.ka; have hb' := p'.kb
  obtain ⟨h, hh⟩ : ∃ h, l.length / 2 = h := ⟨_, rfl⟩
  have hle : h ≤ l.length := by omega
  have oT := o.take hle; have oD := o.drop hle
  have lT : (l.take h).length = h := by simp; omega
  have lD : (l.drop h).length = l.length - h := by simp
  obtain ⟨z1, ⟨vs1, kvs1, rfl⟩, t41a⟩ := Go.Proofs.Ytbpflcilndinfaa.Eng.t41 hX p' r s (l := l.take h) (w := .list 3 (rds (l.take h)) none) (.inr rfl) (by rw [lT]; omega)
  obtain ⟨z2, ⟨vs2, kvs2, rfl⟩, t41b⟩ := Go.Proofs.Ytbpflcilndinfaa.Eng.t41 hX p' r (stN a b r s l h) (l := l.drop h) (w := .list 3 (rds (l.drop h)) none) (.inr rfl) (by rw [lD]; omega)
  unfold runS at kvs1 kvs2
  rw [if_pos oT.run, lT, sts_take (Nat.le_refl _)] at kvs1
  rw [if_pos oD.run, lD] at kvs2
  unfold runX at t41a t41b
  rw [if_pos oT.run, oT.run, lT, evS_take (Nat.le_refl _), spS_take (Nat.le_refl _)] at t41a
  rw [if_pos oD.run, oD.run, lD] at t41b
  have eD : evS a b r s l l.length = evS a b r s l h + evS a b r (stN a b r s l h) (l.drop h) (l.length - h) := by
    have := evS_drop (a := a) (b := b) (r := r) (s := s) (l := l) (h := h) (j := l.length - h)
    rwa [show h + (l.length - h) = l.length by omega] at this
  have sD : spS a b r s l l.length = spS a b r s l h + spS a b r (stN a b r s l h) (l.drop h) (l.length - h) := by
    have := spS_drop (a := a) (b := b) (r := r) (s := s) (l := l) (h := h) (j := l.length - h)
    rwa [show h + (l.length - h) = l.length by omega] at this
  have xD : sts a b r s l l.length = sts a b r s l h ++ sts a b r (stN a b r s l h) (l.drop h) (l.length - h) := by
    have := sts_drop (a := a) (b := b) (r := r) (s := s) (l := l) (h := h) (j := l.length - h)
    rwa [show h + (l.length - h) = l.length by omega] at this
  have xT : (sts a b r s l l.length).take h = sts a b r s l h := by rw [xD, List.take_left' (by simp)]
  have xR : (sts a b r s l l.length).drop h = sts a b r (stN a b r s l h) (l.drop h) (l.length - h) := by rw [xD, List.drop_left' (by simp)]
  have xA : (sts a b r s l l.length).take l.length = sts a b r s l l.length := List.take_of_length_le (by simp)
  have mT := sums_in ta tb r0 r1 v1 v2 o.fl (i := h) hle (fun j hj => o.ok j (by omega))
  have mL := sums_in ta tb r0 r1 v1 v2 o.fl (i := l.length) (Nat.le_refl _) (fun j hj => o.ok j (by omega))
  have mD := sums_in ta tb r0 r1 oD.v1 oD.v2 oD.fl (i := l.length - h) (by omega) (fun j hj => oD.ok j (by omega))
  have t25 := sea25 hX.pair.tab.sea
  have ke := kept a b r s l l.length
  have iw := inS_in o.fl (i := l.length) (Nat.le_refl _)
  have c3 : wi (evS a b r s l h) 0 (evS a b r s l l.length) = true := by simp [wi]; omega
  have c4 : wi (spS a b r s l h) 0 (spS a b r s l l.length) = true := by simp [wi]; omega
  have t25a := fun σ => t25 (evS a b r s l h) 0 (evS a b r s l l.length) σ
  have t25b := fun σ => t25 (spS a b r s l h) 0 (spS a b r s l l.length) σ
  rw [c3] at t25a
  rw [c4] at t25b
  have b1 := volume_in ta v1; have b2 := volume_in tb v2
  obtain ⟨y1, y2⟩ := stN_vol ta tb v1 v2 (i := l.length) (l := l) (r := r) (fun j hj => o.ok j (by omega))
  have b3 := volume_in ta y1; have b4 := volume_in tb y2
  have w1 : IntKind.i64.wrap ((stN a b r s l l.length).1 + (stN a b r s l l.length).2) = (stN a b r s l l.length).1 + (stN a b r s l l.length).2 := by rw [wrap_i64] <;> omega
  have w2 : IntKind.i64.wrap ((stN a b r s l l.length).1 + (stN a b r s l l.length).2 + evS a b r s l l.length) = (stN a b r s l l.length).1 + (stN a b r s l l.length).2 + evS a b r s l l.length := by rw [wrap_i64] <;> omega
  have w3 : IntKind.i64.wrap ((stN a b r s l l.length).1 + (stN a b r s l l.length).2 + evS a b r s l l.length + spS a b r s l l.length) = s.1 + s.2 + inS l l.length := by rw [wrap_i64] <;> omega
  have w4 : IntKind.i64.wrap (s.1 + s.2) = s.1 + s.2 := by rw [wrap_i64] <;> omega
  have w5 : IntKind.i64.wrap (s.1 + s.2 + inS l l.length) = s.1 + s.2 + inS l l.length := by rw [wrap_i64] <;> omega
  have ws : IntKind.i64.wrap (evS a b r s l h + evS a b r (stN a b r s l h) (l.drop h) (l.length - h)) = evS a b r s l l.length := by rw [wrap_i64] <;> omega
  have wp : IntKind.i64.wrap (spS a b r s l h + spS a b r (stN a b r s l h) (l.drop h) (l.length - h)) = spS a b r s l l.length := by rw [wrap_i64] <;> omega
  have hq : IntKind.i64.wrap (Int.tdiv (l.length : Int) 2) = (h : Int) := by
    rw [Int.tdiv_eq_ediv_of_nonneg (by omega), wrap_i64] <;> omega
  have hq2 : IntKind.i64.wrap ((l.length : Int) / 2) = (h : Int) := by rw [wrap_i64] <;> omega
  have hl := fr.len; have h2 := fr.t2; have h3 := fr.t3; have h4 := fr.t4; have h6 := fr.t6; have h7 := fr.t7; have h8 := fr.t8; have h10 := fr.t10; have h12 := fr.t12
  have nx5 := me.nx; have g0 := me.g0; have g1 := me.g1; have g2 := me.g2; have g3 := me.g3; have g4 := me.g4
  have n1 : ¬ 0 = σ.next := by omega
  have n2 : ¬ σ.next = 0 := by omega
  have n3 : ¬ 0 = σ.next + 1 := by omega
  have n4 : ¬ σ.next + 1 = 0 := by omega
  have n5 : ¬ 0 = σ.next + 1 + 1 := by omega
  have n6 : ¬ σ.next + 1 + 1 = 0 := by omega
  have n7 : ¬ 1 = σ.next := by omega
  have n8 : ¬ σ.next = 1 := by omega
  have n9 : ¬ 1 = σ.next + 1 := by omega
  have n10 : ¬ σ.next + 1 = 1 := by omega
  have n11 : ¬ 1 = σ.next + 1 + 1 := by omega
  have n12 : ¬ σ.next + 1 + 1 = 1 := by omega
  have n13 : ¬ 2 = σ.next := by omega
  have n14 : ¬ σ.next = 2 := by omega
  have n15 : ¬ 2 = σ.next + 1 := by omega
  have n16 : ¬ σ.next + 1 = 2 := by omega
  have n17 : ¬ 2 = σ.next + 1 + 1 := by omega
  have n18 : ¬ σ.next + 1 + 1 = 2 := by omega
  have n19 : ¬ 3 = σ.next := by omega
  have n20 : ¬ σ.next = 3 := by omega
  have n21 : ¬ 3 = σ.next + 1 := by omega
  have n22 : ¬ σ.next + 1 = 3 := by omega
  have n23 : ¬ 3 = σ.next + 1 + 1 := by omega
  have n24 : ¬ σ.next + 1 + 1 = 3 := by omega
  have n25 : ¬ 4 = σ.next := by omega
  have n26 : ¬ σ.next = 4 := by omega
  have n27 : ¬ 4 = σ.next + 1 := by omega
  have n28 : ¬ σ.next + 1 = 4 := by omega
  have n29 : ¬ 4 = σ.next + 1 + 1 := by omega
  have n30 : ¬ σ.next + 1 + 1 = 4 := by omega
  have n31 : ¬ σ.next = σ.next + 1 := by omega
  have n32 : ¬ σ.next = σ.next + 1 + 1 := by omega
  have n33 : ¬ σ.next + 1 = σ.next := by omega
  have n34 : ¬ σ.next + 1 = σ.next + 1 + 1 := by omega
  have n35 : ¬ σ.next + 1 + 1 = σ.next := by omega
  have n36 : ¬ σ.next + 1 + 1 = σ.next + 1 := by omega
  by_cases h0 : l.length = 0
  · have e : l = [] := List.length_eq_zero_iff.1 h0
    subst e
    have f1 : stN a b r s ([] : List Rd) ([] : List Rd).length = s := rfl
    have f2 : evS a b r s ([] : List Rd) ([] : List Rd).length = 0 := rfl
    have f3 : spS a b r s ([] : List Rd) ([] : List Rd).length = 0 := rfl
    have f4 : inS ([] : List Rd) ([] : List Rd).length = 0 := rfl
    have f5 : wi 0 0 0 = true := rfl
    rw [f4] at h11
    rw [f2, f3] at g2 g4
    rw [f1] at g3
    obtain ⟨z1, ⟨vs1, kvs1, rfl⟩, t41e⟩ := Go.Proofs.Ytbpflcilndinfaa.Eng.t41 hX p' r s (l := []) (w := .list 3 [] none) (.inr rfl) (by simp)
    unfold runS at kvs1
    have oe : runE a b r s [] = 0 := o.run
    rw [if_pos oe] at kvs1
    unfold runX at t41e
    rw [if_pos oe, oe] at t41e
    have t41e' : ∀ σ, Run X (.call 41) [.agg [u', v', .int .i64 r], .agg [.int .i64 s.1, .int .i64 s.2], .list 3 [] none] σ = some (.ret, [.tup [vs1, .agg [.int .i64 0, .int .i64 0], .int .i64 0]], σ) := t41e
    have t42n := Go.Proofs.Ytbpflcilndinfaa.Eng.t42 hX (l := []) (v := .nils) (.inl ⟨rfl, rfl⟩) (by simp)
    have t42l := Go.Proofs.Ytbpflcilndinfaa.Eng.t42 hX (l := []) (v := .list 3 [] none) (.inr rfl) (by simp)
    have t44n := Go.Proofs.Ytbpflcilndinfaa.Eng.t44 hX kvs1 (w := .nils) (.inl ⟨rfl, rfl⟩) (by simp)
    have t44l := Go.Proofs.Ytbpflcilndinfaa.Eng.t44 hX kvs1 (w := .list 2 [] none) (.inr rfl) (by simp)
    have er : rds [] = [] := rfl
    rw [er] at t42n t42l
    rcases hw with ⟨rfl, _⟩ | rfl <;> rcases kvs with ⟨rfl, _⟩ | rfl
    all_goals (replace h2 := h2; replace h7 := h7)
    all_goals (simp [xf6, XCode.fst, XCode.snd, f1, f2, f3, f4, f5, hl, h2, h3, h4, h6, h7, h8, h10, h11, h12, g0, g1, g2, g3, g4, w4, t31, t42n, t42l, t41e', er, rds, kns, sts, t44n, t44l, t25, Kn.enc, ha.one, ha.strip, ha.free, hb.one, hb.strip, hb.free, ha'.one, ha'.strip, ha'.free, hb'.one, hb'.strip, hb'.free, kvs1.one, kvs1.strip, kvs1.free, kvs2.one, kvs2.strip, kvs2.free, rds_strip, rds_free, kns_strip, kns_free, n1, n2, n3, n4, n5, n6, n7, n8, n9, n10, n11, n12, n13, n14, n15, n16, n17, n18, n19, n20, n21, n22, n23, n24, n25, n26, n27, n28, n29, n30, n31, n32, n33, n34, n35, n36, put_next, new_next, Store.get_new, Store.get_put, put_get, setR, only_get, merge_get', only_next, merge_next, upTo_self, upTo_one, merge_only, touch, wrote, isIn, okRec, hits, capsOf, xcaps, stripL, AVal.strip, freeL, AVal.free, fillR, chunks, mkV])
  have hwl := hw.list (by omega)
  have hvl := kvs.list (by simp; omega)
  subst hwl
  subst hvl
  have t42a := Go.Proofs.Ytbpflcilndinfaa.Eng.t42 hX (l := l.take h) (v := .list 3 (rds (l.take h)) none) (.inr rfl) (by rw [lT]; omega)
  have t42b := Go.Proofs.Ytbpflcilndinfaa.Eng.t42 hX (l := l.drop h) (v := .list 3 (rds (l.drop h)) none) (.inr rfl) (by rw [lD]; omega)
  have t44a := Go.Proofs.Ytbpflcilndinfaa.Eng.t44 hX kvs1 (w := .list 2 (kns (sts a b r s l h)) none) (.inr rfl) (by simp; omega)
  have t44b := Go.Proofs.Ytbpflcilndinfaa.Eng.t44 hX kvs2 (w := .list 2 (kns (sts a b r (stN a b r s l h) (l.drop h) (l.length - h))) none) (.inr rfl) (by simp; omega)
  by_cases hz : 0 < h
  · have hz' : (0 : Int) < h := by omega
    have w6 : IntKind.i64.wrap ((h : Int) - 1) = ((h - 1 : Nat) : Int) := by rw [wrap_i64] <;> omega
    have q := kns_getElem? (l := sts a b r s l l.length) (i := h - 1) (by simp; omega)
    have kk : kat (sts a b r s l l.length) (h - 1) = stN a b r s l h := by rw [sts_kat (by omega), show h - 1 + 1 = h by omega]
    rw [kk] at q
    have q' : (kns (sts a b r s l l.length))[h - 1]? = some (.agg [.int .i64 (stN a b r s l h).1, .int .i64 (stN a b r s l h).2]) := q
    have hlt : h - 1 < l.length := by omega
    simp [xf6, XCode.fst, XCode.snd, hz, hz', q', hlt, kk, hl, h2, h3, h4, h6, h7, h8, h10, h11, h12, g0, g1, g2, g3, g4, w1, w2, w3, w4, w5, w6, ws, wp, hq, hq2, hle, t31, t42a, t42b, t41a, t41b, t44a, t44b, c3, c4, t25a, t25b, rds_take, rds_drop, kns_taken, kns_dropped, xT, xR, xA, Kn.enc, ha.one, ha.strip, ha.free, hb.one, hb.strip, hb.free, ha'.one, ha'.strip, ha'.free, hb'.one, hb'.strip, hb'.free, kvs1.one, kvs1.strip, kvs1.free, kvs2.one, kvs2.strip, kvs2.free, rds_strip, rds_free, kns_strip, kns_free, n1, n2, n3, n4, n5, n6, n7, n8, n9, n10, n11, n12, n13, n14, n15, n16, n17, n18, n19, n20, n21, n22, n23, n24, n25, n26, n27, n28, n29, n30, n31, n32, n33, n34, n35, n36, put_next, new_next, Store.get_new, Store.get_put, put_get, setR, only_get, merge_get', only_next, merge_next, upTo_self, upTo_one, merge_only, touch, wrote, isIn, okRec, hits, capsOf, xcaps, stripL, AVal.strip, freeL, AVal.free, fillR, chunks, mkV]
  · have hz' : ¬ (0 : Int) < h := by omega
    have e : h = 0 := by omega
    have es : stN a b r s l h = s := by rw [e]; rfl
    rw [es] at t41b t44b xR ws wp
    simp [xf6, XCode.fst, XCode.snd, hz, hz', hl, h2, h3, h4, h6, h7, h8, h10, h11, h12, g0, g1, g2, g3, g4, w1, w2, w3, w4, w5, ws, wp, hq, hq2, hle, t31, t42a, t42b, t41a, t41b, t44a, t44b, c3, c4, t25a, t25b, rds_take, rds_drop, kns_taken, kns_dropped, xT, xR, xA, Kn.enc, ha.one, ha.strip, ha.free, hb.one, hb.strip, hb.free, ha'.one, ha'.strip, ha'.free, hb'.one, hb'.strip, hb'.free, kvs1.one, kvs1.strip, kvs1.free, kvs2.one, kvs2.strip, kvs2.free, rds_strip, rds_free, kns_strip, kns_free, n1, n2, n3, n4, n5, n6, n7, n8, n9, n10, n11, n12, n13, n14, n15, n16, n17, n18, n19, n20, n21, n22, n23, n24, n25, n26, n27, n28, n29, n30, n31, n32, n33, n34, n35, n36, put_next, new_next, Store.get_new, Store.get_put, put_get, setR, only_get, merge_get', only_next, merge_next, upTo_self, upTo_one, merge_only, touch, wrote, isIn, okRec, hits, capsOf, xcaps, stripL, AVal.strip, freeL, AVal.free, fillR, chunks, mkV]
end
end Go.Proofs.Ytbpflcilndinfaa.Eng

/-
  RUNS, the law of what is kept, whole.
-/
namespace Go.Proofs.Ytbpflcilndinfaa.Eng
set_option linter.unusedSimpArgs false
set_option linter.unusedVariables false
section
variable {X : FuncId → Option XFunc} (hL : LawDCode X)
include hL
set_option maxHeartbeats 4000000 in
theorem t6 (hA : ∀ σ, Run X (.call 11) [] σ = some (.ret, [.bool true], σ)) {a b : List Kn} {u v : AVal} (ha : KL a u) (hb : KL b v) (r : Int) (s : Kn) {l : List Rd} {w : AVal} (hw : RL l w) (σ : Store) :
    Run X (.call 6) [.agg [u, v, .int .i64 r], .agg [.int .i64 s.1, .int .i64 s.2], w] σ = some (.ret, [.bool true], σ) := by
  have hX := hL.run
  refine call3 (v := .bool true) hL.h6 (by simp [AVal.strip, stripL, AVal.free, freeL, ha.strip, ha.free, hb.strip, hb.free]) rfl (by rw [hw.strip]; exact hw.free) (by decide) (fun tm hl a0 a1 a2 => ?_) rfl σ
  simp only [AVal.strip, stripL, ha.strip, hb.strip] at a0 a1
  rw [hw.strip] at a2
  replace hl : tm.length = 257 := hl
  have t29 := t29 hX.pair ha hb r
  unfold Gives
  by_cases few : a.length ≤ 12 ∧ b.length ≤ 12
  · obtain ⟨f1, f2⟩ := few
    have p : PV a b u v := ⟨ha, hb, by omega, by omega⟩
    have t33 := t33 hX.pair p r s.1 s.2
    by_cases h24 : 24 < l.length
    · have h24' : (24 : Int) < l.length := by omega
      simp [xf6, hl, a0, a1, a2, hA, t29, f1, f2, hw.xlen, h24', ha.one, ha.strip, ha.free, hb.one, hb.strip, hb.free, Store.empty, Store.new, Store.put, Store.get, look, putL, setR, Store.only, Store.merge, touch, wrote, upTo, isIn, okRec, hits, capsOf, xcaps, stripL, AVal.strip, freeL, AVal.free, fillR, chunks, mkV, List.filter]
    have h24' : ¬ (24 : Int) < l.length := by omega
    by_cases h0 : bothErr a b r s.1 s.2 = 0
    · have t40 := t40 hX hw (by omega)
      by_cases hLi : listErr l = 0
      · obtain ⟨ta, tb, r0, r1, v1, v2⟩ := both_ok h0
        obtain ⟨_, hfl⟩ := list_ok hLi
        obtain ⟨u', v', p', t31⟩ := t31 hX.pair p r
        have ha' := p'.ka; have hb' := p'.kb
        have t42 := t42 hX hw (by omega)
        obtain ⟨z, ⟨vs, kvs, rfl⟩, t41⟩ := t41 hX p' r s (l := l) (w := .list 3 (rds l) none) (.inr rfl) (by omega)
        by_cases hz : seF a b r s l l.length = 0
        · have o : Ok6 a b r s l := ⟨ta, tb, r0, r1, v1, v2, hfl, seF_all hz, by omega⟩
          have he := o.run
          unfold runS at kvs
          rw [if_pos he] at kvs
          unfold runX at t41
          rw [if_pos he, he] at t41
          have mL := sums_in ta tb r0 r1 v1 v2 o.fl (i := l.length) (Nat.le_refl _) (fun j hj => o.ok j (by omega))
          have t25 := sea25 hX.pair.tab.sea
          have ke := kept a b r s l l.length
          have iw := inS_in o.fl (i := l.length) (Nat.le_refl _)
          have sp := o.sp (i := l.length) (Nat.le_refl _)
          have c1 : wi (evS a b r s l l.length) 0 48000000000 = true := by have := o.len; simp [wi]; omega
          have c2 : wi (spS a b r s l l.length) 0 48000000000 = true := by have := o.len; simp [wi]; omega
          have xlv : xlen vs = some (.int .i64 l.length) := by have := kvs.xlen; simpa using this
          have e0 : xf6.body = (.seq xf6.body.fst (.seq xf6.body.snd.fst (.seq xf6.body.snd.snd.fst (.seq xf6.body.snd.snd.snd.fst (.seq xf6.body.snd.snd.snd.snd.fst (.seq xf6.body.snd.snd.snd.snd.snd.fst (.seq xf6.body.snd.snd.snd.snd.snd.snd.fst (.seq xf6.body.snd.snd.snd.snd.snd.snd.snd.fst (.seq (.seq xf6.body.snd.snd.snd.snd.snd.snd.snd.snd.fst.fst (.block 0 (.loop xf6l0))) xf6.body.snd.snd.snd.snd.snd.snd.snd.snd.snd))))))))) := rfl
          rw [e0, seq_left, seq_left, seq_left, seq_left, seq_left, seq_left, seq_left, seq_left, Run_seq, seq_left, Run_seq]
          have eP : Ends (Run X (.code (.seq (.seq (.seq (.seq (.seq (.seq (.seq (.seq xf6.body.fst xf6.body.snd.fst) xf6.body.snd.snd.fst) xf6.body.snd.snd.snd.fst) xf6.body.snd.snd.snd.snd.fst) xf6.body.snd.snd.snd.snd.snd.fst) xf6.body.snd.snd.snd.snd.snd.snd.fst) xf6.body.snd.snd.snd.snd.snd.snd.snd.fst) xf6.body.snd.snd.snd.snd.snd.snd.snd.snd.fst.fst)) tm Store.empty) .normal fun tm σ => Fr6 u v w vs tm ∧ XOpd.eval tm (.t 11) = .int .i64 0 ∧ XOpd.eval tm (.t 13) = .int .i64 0 ∧ Me6 u v r s (evS a b r s l l.length, spS a b r s l l.length) s (0, 0) σ := by
            simp [xf6, XCode.fst, XCode.snd, hl, a0, a1, a2, hA, t29, f1, f2, t33, h0, t40, hLi, t31, t42, t41, t25, c1, c2, hw.xlen, xlv, h24', ha.one, ha.strip, ha.free, hb.one, hb.strip, hb.free, hw.one, hw.strip, hw.free, kvs.one, kvs.strip, kvs.free, ha'.one, ha'.strip, ha'.free, hb'.one, hb'.strip, hb'.free, rds_strip, rds_free, Store.empty, Store.new, Store.put, Store.get, look, putL, setR, Store.only, Store.merge, touch, wrote, upTo, isIn, okRec, hits, capsOf, xcaps, stripL, AVal.strip, freeL, AVal.free, fillR, chunks, mkV, List.filter]
            refine ⟨⟨?_, ?_, ?_, ?_, ?_, ?_, ?_, ?_, ?_⟩, ⟨?_, ?_, ?_, ?_, ?_, ?_⟩⟩ <;> simp [hl, a2, Store.get, look]
          obtain ⟨o1, o2, o3, o4, o5⟩ := out_of eP
          rw [o1, thenC_normal, Run_block]
          generalize outT X _ tm Store.empty = tm1 at *
          generalize outS X _ tm Store.empty = σ1 at *
          obtain ⟨q1, q2, q3, q4⟩ := out_of (loop6 hL p hw o kvs l.length 0 (by omega) tm1 σ1 o2 o3 o4 o5)
          rw [q1, blockC_exit, thenC_normal]
          generalize outT X _ tm1 σ1 = tm2 at *
          generalize outS X _ tm1 σ1 = σ2 at *
          obtain ⟨z1, z2⟩ := out_of (end6 hL p hw o kvs tm2 σ2 q2 q3 q4)
          rw [z1]
          generalize outT X _ tm2 σ2 = tm3 at *
          generalize outS X _ tm2 σ2 = σ3 at *
          simp [xf6, givesR, z2]
        · have he : runE a b r s l = 22 := by
            unfold runE
            rw [if_neg (by simpa using h0), if_neg (by simpa using hLi)]
            exact (seF_cases a b r s l l.length).resolve_left hz
          unfold runX at t41
          rw [if_neg (by rw [he]; decide), he] at t41
          simp [xf6, hl, a0, a1, a2, hA, t29, f1, f2, t33, h0, t40, hLi, t31, t42, t41, hw.xlen, h24', ha.one, ha.strip, ha.free, hb.one, hb.strip, hb.free, hw.one, hw.strip, hw.free, kvs.one, kvs.strip, kvs.free, ha'.one, ha'.strip, ha'.free, hb'.one, hb'.strip, hb'.free, rds_strip, rds_free, Store.empty, Store.new, Store.put, Store.get, look, putL, setR, Store.only, Store.merge, touch, wrote, upTo, isIn, okRec, hits, capsOf, xcaps, stripL, AVal.strip, freeL, AVal.free, fillR, chunks, mkV, List.filter]
      · simp [xf6, hl, a0, a1, a2, hA, t29, f1, f2, t33, h0, t40, hLi, hw.xlen, h24', ha.one, ha.strip, ha.free, hb.one, hb.strip, hb.free, hw.one, hw.strip, hw.free, Store.empty, Store.new, Store.put, Store.get, look, putL, setR, Store.only, Store.merge, touch, wrote, upTo, isIn, okRec, hits, capsOf, xcaps, stripL, AVal.strip, freeL, AVal.free, fillR, chunks, mkV, List.filter]
    · simp [xf6, hl, a0, a1, a2, hA, t29, f1, f2, t33, h0, hw.xlen, h24', ha.one, ha.strip, ha.free, hb.one, hb.strip, hb.free, Store.empty, Store.new, Store.put, Store.get, look, putL, setR, Store.only, Store.merge, touch, wrote, upTo, isIn, okRec, hits, capsOf, xcaps, stripL, AVal.strip, freeL, AVal.free, fillR, chunks, mkV, List.filter]
  · have : (decide (a.length ≤ 12) && decide (b.length ≤ 12)) = false := by simpa using few
    rw [this] at t29
    simp [xf6, hl, a0, a1, a2, hA, t29, ha.one, ha.strip, ha.free, hb.one, hb.strip, hb.free, Store.empty, Store.new, Store.put, Store.get, look, putL, setR, Store.only, Store.merge, touch, wrote, upTo, isIn, okRec, hits, capsOf, xcaps, stripL, AVal.strip, freeL, AVal.free, fillR, chunks, mkV, List.filter]
end
end Go.Proofs.Ytbpflcilndinfaa.Eng
