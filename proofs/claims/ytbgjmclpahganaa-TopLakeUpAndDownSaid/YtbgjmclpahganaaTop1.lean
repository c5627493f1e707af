/-
  UP AND DOWN, A: there and back.
-/
import Derived.Test.YtbgjmclpahganaaVio1
import Derived.Test.YtbgjmclpahganaaCode1
import Derived.Test.YtbgjmclpahganaaEng1
namespace Go.Proofs.Ytbgjmclpahganaa.Eng
set_option linter.unusedSimpArgs false
set_option linter.unusedVariables false
theorem call_strip {X : FuncId → Option XFunc} {f : FuncId} {args : List AVal} (h : freeL (stripL args) = true) (σ : Store) : Run X (.call f) args σ = Run X (.call f) (stripL args) σ := by
  have e := freeL_strip h
  rw [Run_step, Run_step]
  simp only [step, e, h, if_true]
def lst (f : Nat → Rd) (n : Nat) : List Rd := (List.range n).map f
@[simp] theorem lst_len (f : Nat → Rd) (n : Nat) : (lst f n).length = n := by simp [lst]
theorem lst_rat {f : Nat → Rd} {n i : Nat} (h : i < n) : rat (lst f n) i = f i := by
  unfold rat lst
  rw [List.getD_eq_getElem?_getD, List.getElem?_map, List.getElem?_range h]; rfl
theorem lst_succ (f : Nat → Rd) (n : Nat) : lst f (n + 1) = lst f n ++ [f n] := by
  unfold lst; rw [List.range_succ, List.map_append]; rfl
def uF (l : List Rd) (i : Nat) : Rd := (0, 0, (rat l i).2.2)
def bF (l : List Rd) (i : Nat) : Rd := (0, 0, -(rat l (l.length - 1 - i)).2.2)
theorem ev_dry (l : List Kn) {n : Int} (t : Tab l) (h : isVol l n = true) : evR l n 0 = 0 := by
  have := (isVol_iff.1 h).1
  unfold evR evQ
  simp
  omega
theorem up_ok {l : List Rd} (h : listErr l = 0) : listErr (lst (uF l) l.length) = 0 ∧ listErr (lst (bF l) l.length) = 0 := by
  obtain ⟨h1, h2⟩ := list_ok h
  have key : ∀ f : Nat → Rd, (∀ i, i < l.length → flErr (f i).1 (f i).2.1 (f i).2.2 = 0) → listErr (lst f l.length) = 0 := fun f hf => by
    unfold listErr
    rw [if_neg (by simp; omega)]
    have : ∀ k i, i + k ≤ l.length → (fstIx (ferr (lst f l.length)) k i).2 = 0 := by
      intro k
      induction k with
      | zero => intro i _; rfl
      | succ k ih =>
        intro i hi
        have e : ferr (lst f l.length) i = 0 := by unfold ferr; rw [lst_rat (by omega)]; exact hf i (by omega)
        simp only [fstIx, e, if_true]
        exact ih (i + 1) (by omega)
    have := this l.length 0 (by omega)
    simpa using this
  constructor
  · refine key _ fun i hi => ?_
    have := fl_ok (h2 i hi)
    have c1 : wi 0 0 10000000 = true := rfl
    have c2 : wi (rat l i).2.2 (-10000000) 10000000 = true := by simp [wi]; omega
    simp [uF, flErr, c1, c2]
  · refine key _ fun i hi => ?_
    have := fl_ok (h2 (l.length - 1 - i) (by omega))
    have c1 : wi 0 0 10000000 = true := rfl
    have c2 : wi (-(rat l (l.length - 1 - i)).2.2) (-10000000) 10000000 = true := by simp [wi]; omega
    simp only [bF, flErr, c1, c2]; rfl
section
variable {a b : List Kn} (ta : Tab a) (tb : Tab b) {s : Kn} {l : List Rd}
include ta tb
/-- A step without losses. -/
theorem nx_dry {s : Kn} (v1 : isVol a s.1 = true) (v2 : isVol b s.2 = true) {e : Int} (w1 : isVol a (s.1 + e) = true) (w2 : isVol b (s.2 - e) = true) : seA a b 0 s (0, 0, e) = 0 ∧ nx a b 0 s (0, 0, e) = (s.1 + e, s.2 - e) ∧ evN a b 0 s = 0 ∧ spN a b 0 s (0, 0, e) = 0 := by
  have e1 := ev_dry a ta v1; have e2 := ev_dry b tb v2
  have i1 := isVol_iff.1 w1; have i2 := isVol_iff.1 w2
  have u1 : upV a 0 s.1 0 e = s.1 + e := by unfold upV; omega
  have u2 : upV b 0 s.2 0 (-e) = s.2 - e := by unfold upV; omega
  refine ⟨?_, ?_, ?_, ?_⟩
  · unfold seA stepE; rw [u1, u2, if_neg (by omega), if_neg (by omega)]
  · simp only [nx]
    rw [u1, u2]
    unfold capV
    rw [if_neg (by omega), if_neg (by omega)]
  · unfold evN; omega
  · simp only [spN]
    rw [u1, u2]
    unfold spV
    rw [if_neg (by omega), if_neg (by omega)]; rfl
theorem nx_up {s : Kn} (v1 : isVol a s.1 = true) (v2 : isVol b s.2 = true) {e : Int} (h : seA a b 0 s (0, 0, e) = 0) (hs : spN a b 0 s (0, 0, e) = 0) : nx a b 0 s (0, 0, e) = (s.1 + e, s.2 - e) := by
  have e1 := ev_dry a ta v1; have e2 := ev_dry b tb v2
  have u1 : upV a 0 s.1 0 e = s.1 + e := by unfold upV; omega
  have u2 : upV b 0 s.2 0 (-e) = s.2 - e := by unfold upV; omega
  simp only [spN] at hs
  simp only [nx]
  rw [u1, u2] at hs ⊢
  unfold spV at hs
  unfold capV
  split at hs <;> split at hs <;> simp_all <;> omega
/-- All that is known of a run up without losses. -/
structure UpOk (a b : List Kn) (s : Kn) (l : List Rd) : Prop where
  v1 : isVol a s.1 = true
  v2 : isVol b s.2 = true
  ok : ∀ j, j < l.length → seA a b 0 (stN a b 0 s (lst (uF l) l.length) j) (uF l j) = 0
  sp : ∀ j, j < l.length → spN a b 0 (stN a b 0 s (lst (uF l) l.length) j) (uF l j) = 0
omit ta tb in
theorem UpOk.ok' (o : UpOk a b s l) : ∀ j, j < l.length → seA a b 0 (stN a b 0 s (lst (uF l) l.length) j) (rat (lst (uF l) l.length) j) = 0 := fun j hj => by rw [lst_rat hj]; exact o.ok j hj
theorem UpOk.vol (o : UpOk a b s l) {i : Nat} (h : i ≤ l.length) : isVol a (stN a b 0 s (lst (uF l) l.length) i).1 = true ∧ isVol b (stN a b 0 s (lst (uF l) l.length) i).2 = true :=
  stN_vol ta tb o.v1 o.v2 (fun j hj => o.ok' j (by omega))
theorem UpOk.next (o : UpOk a b s l) {i : Nat} (h : i < l.length) : stN a b 0 s (lst (uF l) l.length) (i + 1) = ((stN a b 0 s (lst (uF l) l.length) i).1 + (rat l i).2.2, (stN a b 0 s (lst (uF l) l.length) i).2 - (rat l i).2.2) := by
  obtain ⟨w1, w2⟩ := o.vol ta tb (i := i) (by omega)
  have := nx_up ta tb w1 w2 (o.ok i h) (o.sp i h)
  show nx a b 0 _ (rat (lst (uF l) l.length) i) = _
  rw [lst_rat h]; exact this
/-- The way back. -/
theorem UpOk.back (o : UpOk a b s l) : ∀ i, i ≤ l.length → stN a b 0 (stN a b 0 s (lst (uF l) l.length) l.length) (lst (bF l) l.length) i = stN a b 0 s (lst (uF l) l.length) (l.length - i) ∧
    (∀ j, j < i → seA a b 0 (stN a b 0 (stN a b 0 s (lst (uF l) l.length) l.length) (lst (bF l) l.length) j) (rat (lst (bF l) l.length) j) = 0 ∧ evN a b 0 (stN a b 0 (stN a b 0 s (lst (uF l) l.length) l.length) (lst (bF l) l.length) j) = 0 ∧ spN a b 0 (stN a b 0 (stN a b 0 s (lst (uF l) l.length) l.length) (lst (bF l) l.length) j) (rat (lst (bF l) l.length) j) = 0)
  | 0, _ => ⟨rfl, fun j hj => by omega⟩
  | i + 1, hi => by
    obtain ⟨ih1, ih2⟩ := UpOk.back o i (by omega)
    obtain ⟨k, hk⟩ : ∃ k, l.length - i = k + 1 := ⟨l.length - i - 1, by omega⟩
    have hk' : l.length - (i + 1) = k := by omega
    have hb : rat (lst (bF l) l.length) i = (0, 0, -(rat l k).2.2) := by rw [lst_rat (by omega)]; unfold bF; rw [show l.length - 1 - i = k by omega]
    have hn := o.next ta tb (i := k) (by omega)
    obtain ⟨x1, x2⟩ := o.vol ta tb (i := k + 1) (by omega)
    obtain ⟨y1, y2⟩ := o.vol ta tb (i := k) (by omega)
    have z1 : (stN a b 0 s (lst (uF l) l.length) (k + 1)).1 + -(rat l k).2.2 = (stN a b 0 s (lst (uF l) l.length) k).1 := by rw [hn]; simp only; omega
    have z2 : (stN a b 0 s (lst (uF l) l.length) (k + 1)).2 - -(rat l k).2.2 = (stN a b 0 s (lst (uF l) l.length) k).2 := by rw [hn]; simp only; omega
    obtain ⟨d1, d2, d3, d4⟩ := nx_dry ta tb x1 x2 (e := -(rat l k).2.2) (by rw [z1]; exact y1) (by rw [z2]; exact y2)
    rw [z1, z2] at d2
    refine ⟨?_, fun j hj => ?_⟩
    · show nx a b 0 _ (rat (lst (bF l) l.length) i) = _
      rw [ih1, hb, hk, hk', d2]
    · by_cases e : j = i
      · subst e
        rw [ih1, hb, hk]
        exact ⟨d1, d3, d4⟩
      · exact ih2 j (by omega)
end
theorem sums_zero {a b : List Kn} {r : Int} {s : Kn} {l : List Rd} : ∀ {n : Nat}, (∀ j, j < n → evN a b r (stN a b r s l j) = 0 ∧ spN a b r (stN a b r s l j) (rat l j) = 0) → evS a b r s l n = 0 ∧ spS a b r s l n = 0
  | 0, _ => ⟨rfl, rfl⟩
  | n + 1, h => by
    obtain ⟨h1, h2⟩ := sums_zero (n := n) (fun j hj => h j (by omega))
    obtain ⟨h3, h4⟩ := h n (by omega)
    simp only [evS, spS]; omega
theorem sp_zero {a b : List Kn} {r : Int} {s : Kn} {l : List Rd} : ∀ {n : Nat}, (∀ j, j < n → 0 ≤ spN a b r (stN a b r s l j) (rat l j)) → spS a b r s l n = 0 → ∀ j, j < n → spN a b r (stN a b r s l j) (rat l j) = 0
  | 0, _, _, j, hj => by omega
  | n + 1, h, h0, j, hj => by
    have hp : ∀ m, m ≤ n → 0 ≤ spS a b r s l m := fun m => by
      induction m with
      | zero => intro _; exact Int.le_refl _
      | succ m ih => intro hm; have := ih (by omega); have := h m (by omega); simp only [spS]; omega
    have h1 := hp n (Nat.le_refl _)
    have h2 := h n (by omega)
    simp only [spS] at h0
    by_cases e : j = n
    · subst e; omega
    · exact sp_zero (n := n) (fun j hj => h j (by omega)) (by omega) j (by omega)
/-- How a run ends whose steps are all possible. -/
theorem end_cases {a b : List Kn} {r : Int} {s : Kn} {l : List Rd} {L M : Lim} : ∀ (k i : Nat), (∀ j, i ≤ j → j < i + k → seA a b r (stN a b r s l j) (rat l j) = 0) →
    (endR a b r s l L M k i = (i + k, zero3, 12) ∧ ∀ t, i < t → t ≤ i + k → vG a b L M (stN a b r s l) t = none) ∨ (∃ t q, i < t ∧ t ≤ i + k ∧ vG a b L M (stN a b r s l) t = some q ∧ endR a b r s l L M k i = (t - 1, vV t (some q), 0))
  | 0, i, _ => .inl ⟨rfl, fun t h1 h2 => by omega⟩
  | k + 1, i, h => by
    have hz := h i (by omega) (by omega)
    simp only [endR, hz, ne_eq, not_true_eq_false, if_false]
    cases hv : vG a b L M (stN a b r s l) (i + 1) with
    | some q => exact .inr ⟨i + 1, q, by omega, by omega, hv, rfl⟩
    | none =>
      rcases end_cases (a := a) (b := b) (r := r) (s := s) (l := l) (L := L) (M := M) k (i + 1) (fun j h1 h2 => h j (by omega) (by omega)) with ⟨h1, h2⟩ | ⟨t, q, h1, h2, h3, h4⟩
      · refine .inl ⟨by rw [h1, show i + 1 + k = i + (k + 1) by omega], fun t t1 t2 => ?_⟩
        by_cases e : t = i + 1
        · subst e; exact hv
        · exact h2 t (by omega) (by omega)
      · exact .inr ⟨t, q, by omega, by omega, h3, h4⟩
/-- Limits of levels alone. -/
def wid (L : Lim) : Lim := (L.1, L.2.1, 1000000, 1000000, L.2.2.2.2)
theorem wid_ok {a : List Kn} {L : Lim} (h : LimOk a L) : LimOk a (wid L) := ⟨h.lo, h.hi, by simp [wid], by simp [wid], by simp [wid], by simp [wid], h.w0, h.w1, h.le⟩
theorem lim_err0 {a : List Kn} {L : Lim} (h : LimOk a L) : limErr a L = 0 := by
  have h1 := h.lo; have h2 := h.hi; have h3 := h.f0; have h4 := h.f1; have h5 := h.r0; have h6 := h.r1; have h7 := h.w0; have h8 := h.w1; have h9 := h.le
  have c1 : wi L.2.2.1 0 1000000 = true := by simp [wi]; omega
  have c2 : wi L.2.2.2.1 0 1000000 = true := by simp [wi]; omega
  have c3 : wi L.2.2.2.2 1 200 = true := by simp [wi]; omega
  simp [limErr, firstNZ, h1, h2, c1, c2, c3]; omega
theorem mnum_top {l : List Kn} (t : Tab l) {x : Int} (h : isVol l x = true) : mnum (mx l x) ≤ 1000000 * (mx l x).2.2 := by
  have e : mnum (mx l x) = (kat l (vix l x - 1)).1 * ((kat l (vix l x)).2 - (kat l (vix l x - 1)).2) + sNum x (kat l (vix l x - 1)).2 (kat l (vix l x - 1)).1 (kat l (vix l x)).1 := by
    unfold mnum mx levR sLo
    simp only
    generalize sNum x (kat l (vix l x - 1)).2 (kat l (vix l x - 1)).1 (kat l (vix l x)).1 = q
    generalize (kat l (vix l x)).2 - (kat l (vix l x - 1)).2 = d
    have := Int.mul_ediv_add_emod q d
    rw [Int.add_mul, Int.mul_comm (q / d) d]; omega
  have s := (vix_s t h).num
  obtain ⟨j1, j2, j3, j4⟩ := vix_in t h
  have i1 := t.inr _ j2; have i2 := t.inr (vix l x - 1) (by omega); have i3 := t.inc _ j1 j2
  unfold InR at i1 i2
  have e3 : (mx l x).2.2 = (kat l (vix l x)).2 - (kat l (vix l x - 1)).2 := rfl
  rw [e, e3]
  generalize sNum x (kat l (vix l x - 1)).2 (kat l (vix l x - 1)).1 (kat l (vix l x)).1 = q at *
  generalize hd : (kat l (vix l x)).2 - (kat l (vix l x - 1)).2 = d at *
  have h1 : (kat l (vix l x)).1 * d ≤ 1000000 * d := Int.mul_le_mul_of_nonneg_right (by omega) (by omega)
  have h2 : d * ((kat l (vix l x)).1 - (kat l (vix l x - 1)).1) = (kat l (vix l x)).1 * d - (kat l (vix l x - 1)).1 * d := by rw [Int.mul_sub, Int.mul_comm d, Int.mul_comm d]
  omega
theorem exc_wide {a : List Kn} (t : Tab a) {x y : Int} (hx : isVol a x = true) (hy : isVol a y = true) : exc (mx a x) (mx a y) 1000000 = false := by
  have ox := mx_ok t hx; have oy := mx_ok t hy
  rw [Bool.eq_false_iff, ne_eq, exc_iff ox oy]
  have h1 := mnum_top t hx
  have dx : 0 < (mx a x).2.2 := by have := ox.b0; have := ox.b1; omega
  have dy : 0 < (mx a y).2.2 := by have := oy.b0; have := oy.b1; omega
  have h2 : 0 ≤ mnum (mx a y) := by
    have h3 : 0 ≤ (mx a y).1 * (mx a y).2.2 := Int.mul_nonneg oy.a0 (by omega)
    have := oy.b0
    unfold mnum; omega
  have h4 : mnum (mx a x) * (mx a y).2.2 ≤ 1000000 * (mx a x).2.2 * (mx a y).2.2 := Int.mul_le_mul_of_nonneg_right h1 (by omega)
  have h5 : 0 ≤ mnum (mx a y) * (mx a x).2.2 := Int.mul_nonneg h2 (by omega)
  rw [Int.mul_assoc] at h4
  omega
theorem vb_wide {a : List Kn} (t : Tab a) {L : Lim} {x y y' : Int} (hx : isVol a x = true) (hy : isVol a y = true) (hy' : isVol a y' = true) : fe (vb a (wid L) x y) 4 0 = fe (vb a (wid L) x y') 4 0 ∧ ∀ k, fe (vb a (wid L) x y) 4 0 = some k → k ≤ 1 := by
  have e2 : exc (mx a y) (mx a x) 1000000 = false := exc_wide t hy hx
  have e3 : exc (mx a x) (mx a y) 1000000 = false := exc_wide t hx hy
  have e2' : exc (mx a y') (mx a x) 1000000 = false := exc_wide t hy' hx
  have e3' : exc (mx a x) (mx a y') 1000000 = false := exc_wide t hx hy'
  have f2 : vb a (wid L) x y 2 = false := e2
  have f3 : vb a (wid L) x y 3 = false := e3
  have f2' : vb a (wid L) x y' 2 = false := e2'
  have f3' : vb a (wid L) x y' 3 = false := e3'
  have g0 : vb a (wid L) x y 0 = vb a (wid L) x y' 0 := rfl
  have g1 : vb a (wid L) x y 1 = vb a (wid L) x y' 1 := rfl
  refine ⟨?_, fun k hk => ?_⟩
  · simp only [fe, f2, f3, f2', f3', g0, g1]
  · simp only [fe, f2, f3] at hk
    split at hk
    · simp at hk; omega
    · split at hk
      · simp at hk; omega
      · simp at hk
/-- The violation of levels alone depends on the state alone. -/
theorem vG_wide {a b : List Kn} (ta : Tab a) (tb : Tab b) {L M : Lim} {st st' : Nat → Kn} {t t' : Nat} (he : st t = st' t') (hv : ∀ j, j ≤ t → isVol a (st j).1 = true ∧ isVol b (st j).2 = true) (hv' : ∀ j, j ≤ t' → isVol a (st' j).1 = true ∧ isVol b (st' j).2 = true) :
    vG a b (wid L) (wid M) st t = vG a b (wid L) (wid M) st' t' ∧ ∀ la kd, vG a b (wid L) (wid M) st t = some (la, kd) → kd ≤ 1 := by
  obtain ⟨x1, x2⟩ := hv t (Nat.le_refl _)
  obtain ⟨y1, y2⟩ := hv _ (wb_le t (wid L).2.2.2.2)
  obtain ⟨z1, z2⟩ := hv _ (wb_le t (wid M).2.2.2.2)
  obtain ⟨p1, p2⟩ := hv' _ (wb_le t' (wid L).2.2.2.2)
  obtain ⟨q1, q2⟩ := hv' _ (wb_le t' (wid M).2.2.2.2)
  obtain ⟨e1, k1⟩ := vb_wide ta (L := L) x1 y1 p1
  obtain ⟨e2, k2⟩ := vb_wide tb (L := M) x2 z2 q2
  unfold vG
  rw [← he]
  refine ⟨by rw [e1, e2], fun la kd h => ?_⟩
  cases h1 : fe (vb a (wid L) (st t).1 (st (wb t (wid L).2.2.2.2)).1) 4 0 with
  | some k => rw [h1] at h; simp at h; have := k1 k h1; omega
  | none =>
    rw [h1] at h
    simp only at h
    cases h2 : fe (vb b (wid M) (st t).2 (st (wb t (wid M).2.2.2.2)).2) 4 0 with
    | some k => rw [h2] at h; simp at h; have := k2 k h2; omega
    | none => rw [h2] at h; simp at h
end Go.Proofs.Ytbgjmclpahganaa.Eng

/-
  UP AND DOWN: the law.
-/
namespace Go.Proofs.Ytbgjmclpahganaa.Eng
set_option linter.unusedSimpArgs false
set_option linter.unusedVariables false
theorem seF_22 {a b : List Kn} {r : Int} {s : Kn} {l : List Rd} : ∀ (k : Nat), seF a b r s l k = 0 ∨ seF a b r s l k = 22
  | 0 => .inl rfl
  | k + 1 => by
    simp only [seF]
    split
    · rename_i h; exact (seF_22 k)
    · exact seA_cases _ _ _ _ _
theorem spN_40 {a b : List Kn} (ta : Tab a) (tb : Tab b) {r : Int} (r0 : 0 ≤ r) (r1 : r ≤ 1000) {s : Kn} {f : Rd} (v1 : isVol a s.1 = true) (v2 : isVol b s.2 = true) (hf : flErr f.1 f.2.1 f.2.2 = 0) : 0 ≤ spN a b r s f ∧ spN a b r s f ≤ 40000000 := by
  have e1 := ev_ok ta v1 r0 r1; have e2 := ev_ok tb v2 r0 r1
  have q1 := e1.e0; have q3 := e2.e0
  have w1 := isVol_iff.1 v1; have w2 := isVol_iff.1 v2
  have hfl := fl_ok hf
  unfold spN spV upV
  constructor <;> (repeat' split) <;> omega
def OutR (e : Nat) (σ : Store) (m0 : Nat) (xs : List Rd) (v : AVal) (j : Nat) : Prop := m0 ≤ j ∧ j < σ.next ∧ v = .list 3 (rds xs) (some j) ∧ σ.get j = some (.tok e 3 xs.length)
def F3 (u v : AVal) (s : Kn) (L M : Lim) (w : AVal) (tm : List AVal) (σ : Store) : Prop :=
  tm.length = 238 ∧ XOpd.eval tm (.t 3) = .ptr 0 0 ∧ XOpd.eval tm (.t 4) = .ptr 1 0 ∧ XOpd.eval tm (.t 5) = .ptr 2 0 ∧
  σ.get 0 = some (.cells [u, v, .int .i64 0]) ∧ σ.get 1 = some (.cells [.int .i64 s.1, .int .i64 s.2]) ∧ σ.get 2 = some (.cells (L.cells ++ M.cells ++ [w])) ∧ 3 ≤ σ.next
section
variable {X : FuncId → Option XFunc} (hX : UVTopCode X)
omit hX in
set_option maxHeartbeats 1000000 in
theorem loop3a {u v : AVal} {s : Kn} {L M : Lim} {l : List Rd} (hl1 : l.length ≤ 200) (hf : ∀ i, i < l.length → ferr l i = 0) : ∀ (k i : Nat), i + k = l.length → ∀ (tm : List AVal) (σ : Store), F3 u v s L M (.list 3 (rds l) none) tm σ → XOpd.eval tm (.t 9) = .int .i64 i → ((i = 0 ∧ XOpd.eval tm (.t 7) = .nils ∧ XOpd.eval tm (.t 8) = .nils) ∨ ∃ j1 j2, j1 ≠ j2 ∧ OutR 43 σ 3 (lst (uF l) i) (XOpd.eval tm (.t 7)) j1 ∧ OutR 43 σ 3 (lst (bF l) i) (XOpd.eval tm (.t 8)) j2) →
    Ends (Run X (.code (.loop xf3l0)) tm σ) (.exit 0) fun tm' σ' => F3 u v s L M (.list 3 (rds l) none) tm' σ' ∧ ((l.length = 0 ∧ XOpd.eval tm' (.t 7) = .nils ∧ XOpd.eval tm' (.t 8) = .nils) ∨ ∃ j1 j2, j1 ≠ j2 ∧ OutR 43 σ' 3 (lst (uF l) l.length) (XOpd.eval tm' (.t 7)) j1 ∧ OutR 43 σ' 3 (lst (bF l) l.length) (XOpd.eval tm' (.t 8)) j2)
  | 0, i, hk, tm, σ, ⟨hl, h3, h4, h5, g0, g1, g2, nx⟩, h9, hO => by
    have e : i = l.length := by omega
    subst e
    rw [Run_loop]
    simp only [Lim.cells, List.cons_append, List.nil_append] at g2
    simp [xf3l0, F3, Lim.cells, hl, h3, h4, h5, h9, g0, g1, g2, nx]
    simpa using hO
  | k + 1, i, hk, tm, σ, ⟨hl, h3, h4, h5, g0, g1, g2, nx⟩, h9, hO => by
    have hi : i < l.length := by omega
    have hi' : (i : Int) < l.length := by omega
    obtain ⟨N, hN⟩ : ∃ N, σ.next = N + 3 := ⟨σ.next - 3, by omega⟩
    have hw : IntKind.i64.wrap ((i : Int) + 1) = ((i + 1 : Nat) : Int) := by rw [wrap_i64] <;> omega
    have q1 := rds_getElem? (l := l) (i := i) hi
    have q2 := rds_getElem? (l := l) (i := l.length - 1 - i) (by omega)
    have f2 := fl_ok (hf (l.length - 1 - i) (by omega))
    have e1 : IntKind.i64.wrap ((l.length : Int) - 1) = (l.length : Int) - 1 := by rw [wrap_i64] <;> omega
    have e2 : IntKind.i64.wrap ((l.length : Int) - 1 - (i : Int)) = ((l.length - 1 - i : Nat) : Int) := by rw [wrap_i64] <;> omega
    have e3 : IntKind.i64.wrap (-(rat l (l.length - 1 - i)).2.2) = -(rat l (l.length - 1 - i)).2.2 := by rw [wrap_i64] <;> omega
    have e3' : IntKind.i64.wrap (0 - (rat l (l.length - 1 - i)).2.2) = -(rat l (l.length - 1 - i)).2.2 := by rw [wrap_i64] <;> omega
    have ih := loop3a (u := u) (v := v) (s := s) (L := L) (M := M) hl1 hf k (i + 1) (by omega)
    have c1 : (rds (lst (uF l) (i + 1))) = rds (lst (uF l) i) ++ [.agg [.int .i64 0, .int .i64 0, .int .i64 (rat l i).2.2]] := by rw [lst_succ]; simp [rds, uF, Rd.enc]
    have c2 : (rds (lst (bF l) (i + 1))) = rds (lst (bF l) i) ++ [.agg [.int .i64 0, .int .i64 0, .int .i64 (-(rat l (l.length - 1 - i)).2.2)]] := by rw [lst_succ]; simp [rds, bF, Rd.enc]
    have b1 : (i + 1) * 24 ≤ 1000000000000 := by omega
    have b2 : i + 1 ≤ 1000000000000 := by omega
    have b3 : i ≤ 999999999999 := by omega
    simp only [Lim.cells, List.cons_append, List.nil_append, Rd.enc] at g2 q1 q2
    have key : Ends (Run X (.code xf3l0) tm σ) .normal fun tm' σ' => F3 u v s L M (.list 3 (rds l) none) tm' σ' ∧ XOpd.eval tm' (.t 9) = .int .i64 ((i + 1 : Nat) : Int) ∧ ∃ j1 j2, j1 ≠ j2 ∧ OutR 43 σ' 3 (lst (uF l) (i + 1)) (XOpd.eval tm' (.t 7)) j1 ∧ OutR 43 σ' 3 (lst (bF l) (i + 1)) (XOpd.eval tm' (.t 8)) j2 := by
      rcases hO with ⟨rfl, h7, h8⟩ | ⟨j1, j2, hj, ⟨p1, p2, h7, p4⟩, ⟨r1, r2, h8, r4⟩⟩
      · have z1 : rds (lst (uF l) 0) = [] := rfl
        have z2 : rds (lst (bF l) 0) = [] := rfl
        rw [z1] at c1
        rw [z2] at c2
        have k1 : IntKind.i64.wrap ((l.length : Int) - 1) = ((l.length - 1 : Nat) : Int) := by rw [wrap_i64] <;> omega
        have k2 : IntKind.i64.wrap ((l.length - 1 : Nat) : Int) = ((l.length - 1 : Nat) : Int) := by rw [wrap_i64] <;> omega
        simp only [Nat.sub_zero] at q2 c2 e3 e3'
        simp [xf3l0, F3, OutR, Lim.cells, hl, h3, h4, h5, h7, h8, h9, g0, g1, g2, hN, hi, hi', q1, q2, k1, k2, e3, e3', hw, c1, c2, Rd.enc, xappend, ones, AVal.one, AVal.isSlice, put_next, new_next, Store.get_new, Store.get_put, put_get, setR, only_get, merge_get', only_next, merge_next, upTo_self, upTo_one, merge_only, touch, wrote, isIn, okRec, hits, capsOf, xcaps, stripL, AVal.strip, freeL, AVal.free, fillR, chunks, mkV]
        exact ⟨N + 3 + 1, N + 3 + 1 + 1 + 1, by omega, ⟨by omega, by omega, rfl, fun _ _ h => absurd rfl h⟩, by omega, by omega, rfl, fun h => absurd rfl h⟩
      · have n1 : ¬ j1 = N + 3 := by omega
        have n2 : ¬ N + 3 = j1 := by omega
        have n3 : ¬ j1 = N + 3 + 1 := by omega
        have n4 : ¬ N + 3 + 1 = j1 := by omega
        have n5 : ¬ j1 = N + 3 + 1 + 1 := by omega
        have n6 : ¬ N + 3 + 1 + 1 = j1 := by omega
        have n7 : ¬ j1 = 0 := by omega
        have n8 : ¬ 0 = j1 := by omega
        have n9 : ¬ j1 = 1 := by omega
        have n10 : ¬ 1 = j1 := by omega
        have n11 : ¬ j1 = 2 := by omega
        have n12 : ¬ 2 = j1 := by omega
        have n13 : ¬ j2 = N + 3 := by omega
        have n14 : ¬ N + 3 = j2 := by omega
        have n15 : ¬ j2 = N + 3 + 1 := by omega
        have n16 : ¬ N + 3 + 1 = j2 := by omega
        have n17 : ¬ j2 = N + 3 + 1 + 1 := by omega
        have n18 : ¬ N + 3 + 1 + 1 = j2 := by omega
        have n19 : ¬ j2 = 0 := by omega
        have n20 : ¬ 0 = j2 := by omega
        have n21 : ¬ j2 = 1 := by omega
        have n22 : ¬ 1 = j2 := by omega
        have n23 : ¬ j2 = 2 := by omega
        have n24 : ¬ 2 = j2 := by omega
        have m1 : ¬ j1 = j2 := by omega
        have m2 : ¬ j2 = j1 := by omega
        have b4 : j1 < N + 3 := by omega
        have b5 : j2 < N + 3 := by omega
        simp only [lst_len] at p4 r4
        simp [xf3l0, F3, OutR, Lim.cells, hl, h3, h4, h5, h7, h8, h9, g0, g1, g2, p4, r4, n1, n2, n3, n4, n5, n6, n7, n8, n9, n10, n11, n12, n13, n14, n15, n16, n17, n18, n19, n20, n21, n22, n23, n24, m1, m2, hN, hi, hi', q1, q2, e1, e2, e3, e3', hw, c1, c2, b1, b2, b3, Rd.enc, xappend, ones, AVal.one, AVal.isSlice, put_next, new_next, Store.get_new, Store.get_put, put_get, setR, only_get, merge_get', only_next, merge_next, upTo_self, upTo_one, merge_only, touch, wrote, isIn, okRec, hits, capsOf, xcaps, stripL, AVal.strip, freeL, AVal.free, fillR, chunks, mkV]
        exact ⟨j1, j2, hj, ⟨p1, by omega, rfl, fun _ => by simp [n1, n2, n3, n4, n5, n6, n7, n8, n9, n10, n11, n12, n13, n14, n15, n16, n17, n18, n19, n20, n21, n22, n23, n24]⟩, r1, by omega, rfl, fun h => absurd rfl h⟩
    obtain ⟨o1, o2, o3, o4⟩ := out_of key
    rw [Run_loop, o1, thenC_normal]
    exact ih _ _ o2 o3 (.inr o4)
omit hX in
def G3 (u v : AVal) (s z : Kn) (L M : Lim) (w : AVal) (N : Nat) (rn dn : List Kn) (t7 t8 : AVal) (tm : List AVal) (σ : Store) : Prop :=
  tm.length = 238 ∧ XOpd.eval tm (.t 3) = .ptr 0 0 ∧ XOpd.eval tm (.t 4) = .ptr 1 0 ∧ XOpd.eval tm (.t 5) = .ptr 2 0 ∧ XOpd.eval tm (.t 7) = t7 ∧ XOpd.eval tm (.t 8) = t8 ∧ XOpd.eval tm (.t 10) = .list 2 (kns rn) none ∧ XOpd.eval tm (.t 13) = .ptr (N + 4) 0 ∧ XOpd.eval tm (.t 14) = .list 2 (kns dn) none ∧
  σ.get 0 = some (.cells [u, v, .int .i64 0]) ∧ σ.get 1 = some (.cells [.int .i64 s.1, .int .i64 s.2]) ∧ σ.get 2 = some (.cells (L.cells ++ M.cells ++ [w])) ∧ σ.get (N + 4) = some (.cells [.int .i64 z.1, .int .i64 z.2]) ∧ N + 6 = σ.next
omit hX in
theorem loop3b {u v : AVal} {s z : Kn} {L M : Lim} {w : AVal} {N : Nat} {rn dn : List Kn} {t7 t8 : AVal} (hr : rn.length ≤ 200) (hd : dn.length = rn.length) (he : ∀ i, i + 1 < rn.length → kat dn i = kat rn (rn.length - 2 - i)) : ∀ (k i : Nat), i + k = rn.length - 1 → ∀ (tm : List AVal) (σ : Store), G3 u v s z L M w N rn dn t7 t8 tm σ → XOpd.eval tm (.t 16) = .int .i64 i →
    Ends (Run X (.code (.loop xf3l1)) tm σ) (.exit 2) fun tm' σ' => G3 u v s z L M w N rn dn t7 t8 tm' σ'
  | 0, i, hk, tm, σ, ⟨hl, h3, h4, h5, h7, h8, h10, h13, h14, g0, g1, g2, g4, nx⟩, h16 => by
    have e1 : IntKind.i64.wrap ((i : Int) + 1) = (i : Int) + 1 := by rw [wrap_i64] <;> omega
    have e2 : ¬ (i : Int) + 1 < rn.length := by omega
    rw [Run_loop]
    simp only [Lim.cells, List.cons_append, List.nil_append] at g2
    simp [xf3l1, G3, Lim.cells, hl, h3, h4, h5, h7, h8, h10, h13, h14, h16, g0, g1, g2, g4, nx, e1, e2]
  | k + 1, i, hk, tm, σ, ⟨hl, h3, h4, h5, h7, h8, h10, h13, h14, g0, g1, g2, g4, nx⟩, h16 => by
    have e1 : IntKind.i64.wrap ((i : Int) + 1) = (i : Int) + 1 := by rw [wrap_i64] <;> omega
    have e2 : (i : Int) + 1 < rn.length := by omega
    have e3 : IntKind.i64.wrap ((rn.length : Int) - 2) = (rn.length : Int) - 2 := by rw [wrap_i64] <;> omega
    have e4 : IntKind.i64.wrap ((rn.length : Int) - 2 - (i : Int)) = ((rn.length - 2 - i : Nat) : Int) := by rw [wrap_i64] <;> omega
    have q1 := kns_getElem? (l := dn) (i := i) (by omega)
    have q2 := kns_getElem? (l := rn) (i := rn.length - 2 - i) (by omega)
    rw [he i (by omega)] at q1
    have ih := loop3b (u := u) (v := v) (s := s) (z := z) (L := L) (M := M) (w := w) (N := N) (t7 := t7) (t8 := t8) hr hd he k (i + 1) (by omega)
    simp only [Lim.cells, List.cons_append, List.nil_append] at g2
    simp only [Kn.enc] at q1 q2
    have key : Ends (Run X (.code xf3l1) tm σ) .normal fun tm' σ' => G3 u v s z L M w N rn dn t7 t8 tm' σ' ∧ XOpd.eval tm' (.t 16) = .int .i64 ((i + 1 : Nat) : Int) := by
      simp [xf3l1, G3, Lim.cells, hl, h3, h4, h5, h7, h8, h10, h13, h14, h16, g0, g1, g2, g4, nx, e1, e2, e3, e4, q1, q2, Kn.enc, put_next, new_next, Store.get_new, Store.get_put, put_get, setR, only_get, merge_get', only_next, merge_next, upTo_self, upTo_one, merge_only, touch, wrote, isIn, okRec, hits, capsOf, xcaps, stripL, AVal.strip, freeL, AVal.free, fillR, chunks, mkV]
    obtain ⟨o1, o2, o3⟩ := out_of key
    rw [Run_loop, o1, thenC_normal]
    exact ih _ _ o2 o3
include hX
theorem copy3 {l : List Rd} (hl : l.length ≤ 1000000) (tok : Option Nat) (σ : Store) : Run X (.call 10) [.list 3 (rds l) tok] σ = some (.ret, [.list 3 (rds l) none], σ) := by
  rw [call_stripped (by simp [stripL, AVal.strip, AVal.free, freeL, rds_strip, rds_free])]
  simp only [stripL, AVal.strip, rds_strip]
  exact t42 hX.vio.runs.run (.inr rfl) hl σ
set_option maxHeartbeats 4000000 in
theorem z3 (hA : ∀ σ, Run X (.call 4) [] σ = some (.ret, [.bool true], σ)) {a b : List Kn} {u v : AVal} (ha : KL a u) (hb : KL b v) (r : Int) (s : Kn) (L M : Lim) {l : List Rd} {w : AVal} (hw : RL l w) (σ : Store) :
    Run X (.call 3) [.agg [u, v, .int .i64 r], .agg [.int .i64 s.1, .int .i64 s.2], .agg (L.cells ++ M.cells ++ [w])] σ = some (.ret, [.bool true], σ) := by
  have hR := hX.vio.runs.run
  refine call3 (v := .bool true) hX.h3 (by simp [AVal.strip, stripL, AVal.free, freeL, ha.strip, ha.free, hb.strip, hb.free]) rfl (by simp [AVal.strip, stripL, AVal.free, freeL, hw.strip, hw.free, Lim.cells]) (by decide) (fun tm hl a0 a1 a2 => ?_) rfl σ
  simp only [AVal.strip, stripL, ha.strip, hb.strip, hw.strip, Lim.cells, List.cons_append, List.nil_append] at a0 a1 a2
  replace hl : tm.length = 238 := hl
  have t29 := t29 hR.pair ha hb r
  unfold Gives
  by_cases few : a.length ≤ 12 ∧ b.length ≤ 12
  case neg =>
    have : (decide (a.length ≤ 12) && decide (b.length ≤ 12)) = false := by simpa using few
    rw [this] at t29
    simp [xf3, hl, a0, a1, a2, hA, t29, ha.one, ha.strip, ha.free, hb.one, hb.strip, hb.free, hw.one, hw.strip, hw.free, Store.empty, Store.new, Store.put, Store.get, look, putL, setR, Store.only, Store.merge, touch, wrote, upTo, isIn, okRec, hits, capsOf, xcaps, stripL, AVal.strip, freeL, AVal.free, fillR, chunks, mkV, List.filter]
  obtain ⟨f1, f2⟩ := few
  have p : PV a b u v := ⟨ha, hb, by omega, by omega⟩
  by_cases n0 : l.length = 0
  · have n0' : l = [] := List.eq_nil_of_length_eq_zero n0
    simp [xf3, hl, a0, a1, a2, hA, t29, f1, f2, hw.xlen, n0', ha.one, ha.strip, ha.free, hb.one, hb.strip, hb.free, hw.one, hw.strip, hw.free, Store.empty, Store.new, Store.put, Store.get, look, putL, setR, Store.only, Store.merge, touch, wrote, upTo, isIn, okRec, hits, capsOf, xcaps, stripL, AVal.strip, freeL, AVal.free, fillR, chunks, mkV, List.filter]
  have n0' : ¬ (l.length : Int) = 0 := by omega
  have n0'' : ¬ l = [] := fun h => n0 (by rw [h]; rfl)
  by_cases n8 : (8 : Int) < l.length
  · simp [xf3, hl, a0, a1, a2, hA, t29, f1, f2, hw.xlen, n0', n0'', n8, ha.one, ha.strip, ha.free, hb.one, hb.strip, hb.free, hw.one, hw.strip, hw.free, Store.empty, Store.new, Store.put, Store.get, look, putL, setR, Store.only, Store.merge, touch, wrote, upTo, isIn, okRec, hits, capsOf, xcaps, stripL, AVal.strip, freeL, AVal.free, fillR, chunks, mkV, List.filter]
  have t33 := t33 hR.pair p r s.1 s.2
  by_cases hb0 : bothErr a b r s.1 s.2 = 0
  case neg => simp [xf3, hl, a0, a1, a2, hA, t29, f1, f2, hw.xlen, n0', n0'', n8, t33, hb0, ha.one, ha.strip, ha.free, hb.one, hb.strip, hb.free, hw.one, hw.strip, hw.free, Store.empty, Store.new, Store.put, Store.get, look, putL, setR, Store.only, Store.merge, touch, wrote, upTo, isIn, okRec, hits, capsOf, xcaps, stripL, AVal.strip, freeL, AVal.free, fillR, chunks, mkV, List.filter]
  obtain ⟨ta, tb, r0, r1, v1, v2⟩ := both_ok hb0
  have a2' := ta.two; have b2' := tb.two
  have z23 := z23 hX.vio p (by omega) (by omega) r L M hw (by omega)
  simp only [Lim.cells, List.cons_append, List.nil_append] at z23
  by_cases ht : tskErr a b L M l = 0
  case neg => simp [xf3, hl, a0, a1, a2, hA, t29, f1, f2, hw.xlen, n0', n0'', n8, t33, hb0, z23, ht, ha.one, ha.strip, ha.free, hb.one, hb.strip, hb.free, hw.one, hw.strip, hw.free, Store.empty, Store.new, Store.put, Store.get, look, putL, setR, Store.only, Store.merge, touch, wrote, upTo, isIn, okRec, hits, capsOf, xcaps, stripL, AVal.strip, freeL, AVal.free, fillR, chunks, mkV, List.filter]
  have hls : limsErr a b L M = 0 := by
    unfold tskErr at ht; split at ht
    · contradiction
    · simp_all
  have hll : listErr l = 0 := by unfold tskErr at ht; rw [if_neg (by simpa using hls)] at ht; exact ht
  obtain ⟨oL, oM⟩ := lims_ok hls
  obtain ⟨l200, hf⟩ := list_ok hll
  have hwl := hw.list (by omega)
  subst hwl
  rw [Run_cut 5]
  have eP : Ends (Run X (.code (XCode.cutP 5 xf3.body)) tm Store.empty) .normal fun tm σ => F3 u v s L M (.list 3 (rds l) none) tm σ ∧ XOpd.eval tm (.t 9) = .int .i64 (0 : Nat) ∧ XOpd.eval tm (.t 7) = .nils ∧ XOpd.eval tm (.t 8) = .nils := by
    simp [F3, Lim.cells, xf3, XCode.cutP, hl, a0, a1, a2, hA, t29, f1, f2, hw.xlen, n0', n0'', n8, t33, hb0, z23, ht, rds_strip, rds_free, ha.one, ha.strip, ha.free, hb.one, hb.strip, hb.free, Store.empty, Store.new, Store.put, Store.get, look, putL, setR, Store.only, Store.merge, touch, wrote, upTo, isIn, okRec, hits, capsOf, xcaps, stripL, AVal.strip, freeL, AVal.free, fillR, chunks, mkV, List.filter]
  obtain ⟨o1, o2, o3, o4, o5⟩ := out_of eP
  have hB : XCode.cutB 5 xf3.body = .block 0 (.loop xf3l0) := rfl
  rw [o1, thenC_normal, hB, Run_block]
  generalize outT X _ tm Store.empty = tm1 at *
  generalize outS X _ tm Store.empty = σ1 at *
  obtain ⟨q1, q2, q3⟩ := out_of (loop3a (X := X) (u := u) (v := v) (s := s) (L := L) (M := M) (l := l) l200 hf l.length 0 (by omega) tm1 σ1 o2 o3 (.inl ⟨rfl, o4, o5⟩))
  rw [q1, blockC_exit, thenC_normal]
  generalize outT X _ tm1 σ1 = tm2 at *
  generalize outS X _ tm1 σ1 = σ2 at *
  obtain ⟨j1, j2, hj, ⟨p1, p2, h7, p4⟩, ⟨r1, r2, h8, r4⟩⟩ := q3.resolve_left (fun h => n0 h.1)
  clear q3
  obtain ⟨hl, h3, h4, h5, g0, g1, g2, nx⟩ := q2
  obtain ⟨N, hN⟩ : ∃ N, σ2.next = N + 3 := ⟨σ2.next - 3, by omega⟩
  obtain ⟨u', v', p', t31⟩ := t31 hR.pair p 0
  have ha' := p'.ka; have hb' := p'.kb
  have c42 := fun l hl tok => copy3 hX (l := l) hl tok
  obtain ⟨eU, eB⟩ := up_ok hll
  have hb00 : bothErr a b 0 s.1 s.2 = 0 := by simp [bothErr, pairErr, ta.err, tb.err, v1, v2, wi]
  have cU := c42 (lst (uF l) l.length) (by simp; omega)
  have cB := c42 (lst (bF l) l.length) (by simp; omega)
  have t41' := fun {u v : AVal} (p : PV a b u v) (r : Int) (s : Kn) {l : List Rd} {w : AVal} (hw : RL l w) (hl : l.length ≤ 1000000) => t41 hR p r s hw hl
  obtain ⟨z, ⟨vs, kvs, rfl⟩, t41⟩ := t41 hR p' 0 s (l := lst (uF l) l.length) (w := .list 3 (rds (lst (uF l) l.length)) none) (.inr rfl) (by simp; omega)
  have t25 := sea25 hR.pair.tab.sea
  by_cases hz : seF a b 0 s (lst (uF l) l.length) l.length = 0
  case neg =>
    have h22 : seF a b 0 s (lst (uF l) l.length) l.length = 22 := (seF_22 _).resolve_left hz
    have he : runE a b 0 s (lst (uF l) l.length) = 22 := by
      unfold runE; rw [if_neg (by simpa using hb00), if_neg (by simpa using eU), lst_len]; exact h22
    unfold runX at t41
    rw [if_neg (by rw [he]; decide), he] at t41
    simp only [Lim.cells, List.cons_append, List.nil_append] at g2
    simp [xf3, XCode.cutR, hl, h3, h4, h5, h7, h8, g0, g1, g2, hN, t31, cU, t41, ha.one, ha.strip, ha.free, hb.one, hb.strip, hb.free, kvs.one, kvs.strip, kvs.free, ha'.one, ha'.strip, ha'.free, hb'.one, hb'.strip, hb'.free, rds_strip, rds_free, put_next, new_next, Store.get_new, Store.get_put, put_get, setR, only_get, merge_get', only_next, merge_next, upTo_self, upTo_one, merge_only, touch, wrote, isIn, okRec, hits, capsOf, xcaps, stripL, AVal.strip, freeL, AVal.free, fillR, chunks, mkV]
  have hall := seF_all hz
  have he : runE a b 0 s (lst (uF l) l.length) = 0 := by
    unfold runE; rw [if_neg (by simpa using hb00), if_neg (by simpa using eU), lst_len]; exact hz
  unfold runS at kvs
  rw [if_pos he, lst_len] at kvs
  unfold runX at t41
  rw [if_pos he, he, lst_len] at t41
  have kvl := kvs.list (by rw [sts_len]; omega)
  subst kvl
  have hvol : ∀ i, i ≤ l.length → isVol a (stN a b 0 s (lst (uF l) l.length) i).1 = true ∧ isVol b (stN a b 0 s (lst (uF l) l.length) i).2 = true := fun i hi => stN_vol ta tb v1 v2 (fun j hj => hall j (by omega))
  have hev : ∀ j, j < l.length → evN a b 0 (stN a b 0 s (lst (uF l) l.length) j) = 0 := fun j hj => by
    obtain ⟨w1, w2⟩ := hvol j (by omega)
    have e1 := ev_dry a ta w1; have e2 := ev_dry b tb w2
    unfold evN; omega
  obtain ⟨_, hfU⟩ := list_ok eU
  have hsp0 : ∀ j, j < l.length → 0 ≤ spN a b 0 (stN a b 0 s (lst (uF l) l.length) j) (rat (lst (uF l) l.length) j) := fun j hj => by
    obtain ⟨w1, w2⟩ := hvol j (by omega)
    exact (spN_40 ta tb (by omega) (by omega) w1 w2 (hfU j (by simp; omega))).1
  have sm : ∀ n, n ≤ l.length → 0 ≤ spS a b 0 s (lst (uF l) l.length) n ∧ spS a b 0 s (lst (uF l) l.length) n ≤ 40000000 * (n : Int) := fun n => by
    induction n with
    | zero => intro _; exact ⟨Int.le_refl _, Int.le_refl _⟩
    | succ n ih =>
      intro hn
      have := ih (by omega)
      obtain ⟨w1, w2⟩ := hvol n (by omega)
      have := spN_40 ta tb (r := 0) (by omega) (by omega) w1 w2 (hfU n (by simp; omega))
      simp only [spS]; push_cast; omega
  have hev0 : evS a b 0 s (lst (uF l) l.length) l.length = 0 := by
    have : ∀ n, n ≤ l.length → evS a b 0 s (lst (uF l) l.length) n = 0 := fun n => by
      induction n with
      | zero => intro _; rfl
      | succ n ih => intro hn; have := ih (by omega); have := hev n (by omega); simp only [evS]; omega
    exact this _ (Nat.le_refl _)
  have cS : wi (spS a b 0 s (lst (uF l) l.length) l.length) 0 16000000000 = true := by have := sm _ (Nat.le_refl _); simp [wi]; omega
  rw [hev0] at t41
  by_cases hS : spS a b 0 s (lst (uF l) l.length) l.length = 0
  case neg =>
    simp only [Lim.cells, List.cons_append, List.nil_append] at g2
    simp [xf3, XCode.cutR, hl, h3, h4, h5, h7, h8, g0, g1, g2, hN, t31, cU, t41, t25, cS, hS, ha.one, ha.strip, ha.free, hb.one, hb.strip, hb.free, kvs.one, kvs.strip, kvs.free, ha'.one, ha'.strip, ha'.free, hb'.one, hb'.strip, hb'.free, rds_strip, rds_free, put_next, new_next, Store.get_new, Store.get_put, put_get, setR, only_get, merge_get', only_next, merge_next, upTo_self, upTo_one, merge_only, touch, wrote, isIn, okRec, hits, capsOf, xcaps, stripL, AVal.strip, freeL, AVal.free, fillR, chunks, mkV]
  have hsp := sp_zero hsp0 hS
  have o : UpOk a b s l := ⟨v1, v2, fun j hj => by have := hall j hj; rwa [lst_rat hj] at this, fun j hj => by have := hsp j hj; rwa [lst_rat hj] at this⟩
  have bk := fun i hi => o.back ta tb i hi
  rw [hS] at t41 cS
  obtain ⟨bk1, bk2⟩ := bk l.length (Nat.le_refl _)
  have bkv : ∀ i, i ≤ l.length → stN a b 0 (stN a b 0 s (lst (uF l) l.length) l.length) (lst (bF l) l.length) i = stN a b 0 s (lst (uF l) l.length) (l.length - i) := fun i hi => (bk i hi).1
  have rl1 : ∀ j, j < l.length → kat (sts a b 0 s (lst (uF l) l.length) l.length) j = stN a b 0 s (lst (uF l) l.length) (j + 1) := fun j hj => sts_kat hj
  have dl1 : ∀ j, j < l.length → kat (sts a b 0 (stN a b 0 s (lst (uF l) l.length) l.length) (lst (bF l) l.length) l.length) j = stN a b 0 s (lst (uF l) l.length) (l.length - (j + 1)) := fun j hj => by rw [sts_kat hj]; exact bkv (j + 1) (by omega)
  have w0 := hvol l.length (Nat.le_refl _)
  have hb01 : bothErr a b 0 (stN a b 0 s (lst (uF l) l.length) l.length).1 (stN a b 0 s (lst (uF l) l.length) l.length).2 = 0 := by simp [bothErr, pairErr, ta.err, tb.err, w0.1, w0.2, wi]
  obtain ⟨y, ⟨ys, kys, rfl⟩, t41b⟩ := t41' p' 0 (stN a b 0 s (lst (uF l) l.length) l.length) (l := lst (bF l) l.length) (w := .list 3 (rds (lst (bF l) l.length)) none) (.inr rfl) (by simp; omega)
  have heB : runE a b 0 (stN a b 0 s (lst (uF l) l.length) l.length) (lst (bF l) l.length) = 0 := by
    unfold runE; rw [if_neg (by simpa using hb01), if_neg (by simpa using eB), lst_len]
    exact seF_zero fun j hj => (bk2 j hj).1
  have sz := sums_zero (n := l.length) fun j hj => (bk2 j hj).2
  unfold runS at kys
  rw [if_pos heB, lst_len] at kys
  unfold runX at t41b
  rw [if_pos heB, heB, lst_len, sz.1, sz.2] at t41b
  have kyl := kys.list (by rw [sts_len]; omega)
  subst kyl
  have z18u := z18 hX.vio p' 0 s (wid L) (wid M) (l := lst (uF l) l.length) (w := .list 3 (rds (lst (uF l) l.length)) none) (.inr rfl) (by simp; omega)
  have z18b := z18 hX.vio p' 0 (stN a b 0 s (lst (uF l) l.length) l.length) (wid L) (wid M) (l := lst (bF l) l.length) (w := .list 3 (rds (lst (bF l) l.length)) none) (.inr rfl) (by simp; omega)
  have hlw : limsErr a b (wid L) (wid M) = 0 := by unfold limsErr; rw [if_neg (by simpa using lim_err0 (wid_ok oL))]; exact lim_err0 (wid_ok oM)
  have wu : wErr a b 0 s (wid L) (wid M) (lst (uF l) l.length) = 0 := by unfold wErr tskErr; rw [if_neg (by simpa using hb00), if_neg (by simpa using hlw)]; exact eU
  have wbk : wErr a b 0 (stN a b 0 s (lst (uF l) l.length) l.length) (wid L) (wid M) (lst (bF l) l.length) = 0 := by unfold wErr tskErr; rw [if_neg (by simpa using hb01), if_neg (by simpa using hlw)]; exact eB
  unfold vioV vioE at z18u z18b
  rw [if_neg (by simpa using wu), if_neg (by simpa using wu), lst_len] at z18u
  rw [if_neg (by simpa using wbk), if_neg (by simpa using wbk), lst_len] at z18b
  have cu := end_cases (a := a) (b := b) (r := 0) (s := s) (l := lst (uF l) l.length) (L := wid L) (M := wid M) l.length 0 (fun j _ j2 => hall j (by omega))
  have cb := end_cases (a := a) (b := b) (r := 0) (s := stN a b 0 s (lst (uF l) l.length) l.length) (l := lst (bF l) l.length) (L := wid L) (M := wid M) l.length 0 (fun j _ j2 => (bk2 j (by omega)).1)
  have hwide : ∀ t, 1 ≤ t → t ≤ l.length → vG a b (wid L) (wid M) (stN a b 0 s (lst (uF l) l.length)) t = vG a b (wid L) (wid M) (stN a b 0 (stN a b 0 s (lst (uF l) l.length) l.length) (lst (bF l) l.length)) (l.length - t) ∧ ∀ la kd, vG a b (wid L) (wid M) (stN a b 0 s (lst (uF l) l.length)) t = some (la, kd) → kd ≤ 1 := fun t t0 t1 => by
    refine vG_wide ta tb (by rw [bkv _ (by omega), show l.length - (l.length - t) = t by omega]) (fun j hj => hvol j (by omega)) (fun j hj => ?_)
    rw [bkv j (by omega)]; exact hvol _ (by omega)
  have rlen : (sts a b 0 s (lst (uF l) l.length) l.length).length = l.length := sts_len _ _ _ _ _ _
  have dlen : (sts a b 0 (stN a b 0 s (lst (uF l) l.length) l.length) (lst (bF l) l.length) l.length).length = l.length := sts_len _ _ _ _ _ _
  have hs0 : stN a b 0 s (lst (uF l) l.length) 0 = s := rfl
  have qr := kns_getElem? (l := sts a b 0 s (lst (uF l) l.length) l.length) (i := l.length - 1) (by omega)
  have qd := kns_getElem? (l := sts a b 0 (stN a b 0 s (lst (uF l) l.length) l.length) (lst (bF l) l.length) l.length) (i := l.length - 1) (by omega)
  rw [rl1 _ (by omega), show l.length - 1 + 1 = l.length by omega] at qr
  rw [dl1 _ (by omega), show l.length - (l.length - 1 + 1) = 0 by omega, hs0] at qd
  have hdr : ∀ i, i + 1 < l.length → kat (sts a b 0 (stN a b 0 s (lst (uF l) l.length) l.length) (lst (bF l) l.length) l.length) i = kat (sts a b 0 s (lst (uF l) l.length) l.length) (l.length - 2 - i) := fun i hi => by
    rw [dl1 i (by omega), rl1 _ (by omega), show l.length - (i + 1) = l.length - 2 - i + 1 by omega]
  generalize stN a b 0 s (lst (uF l) l.length) l.length = z at *
  generalize sts a b 0 s (lst (uF l) l.length) l.length = rn at *
  generalize sts a b 0 z (lst (bF l) l.length) l.length = dn at *
  have e1 : IntKind.i64.wrap ((l.length : Int) - 1) = ((l.length - 1 : Nat) : Int) := by rw [wrap_i64] <;> omega
  simp only [Kn.enc] at qr qd
  simp only [Lim.cells, List.cons_append, List.nil_append, wid] at g2 z18u z18b
  rw [Run_cut 7]
  have eQ : Ends (Run X (.code (XCode.cutP 7 (XCode.cutR 5 xf3.body))) tm2 σ2) .normal fun tm σ => G3 u v s z L M (.list 3 (rds l) none) N rn dn (.list 3 (rds (lst (uF l) l.length)) (some j1)) (.list 3 (rds (lst (bF l) l.length)) (some j2)) tm σ ∧ XOpd.eval tm (.t 16) = .int .i64 (0 : Nat) := by
    simp [G3, Lim.cells, xf3, XCode.cutR, XCode.cutP, hl, h3, h4, h5, h7, h8, g0, g1, g2, hN, t31, cU, cB, t41, t41b, t25, cS, rlen, dlen, e1, qr, qd, Kn.enc, ha.one, ha.strip, ha.free, hb.one, hb.strip, hb.free, ha'.one, ha'.strip, ha'.free, hb'.one, hb'.strip, hb'.free, rds_strip, rds_free, kns_strip, kns_free, put_next, new_next, Store.get_new, Store.get_put, put_get, setR, only_get, merge_get', only_next, merge_next, upTo_self, upTo_one, merge_only, touch, wrote, isIn, okRec, hits, capsOf, xcaps, stripL, AVal.strip, freeL, AVal.free, fillR, chunks, mkV]
  obtain ⟨o1, o2, o3⟩ := out_of eQ
  have hB2 : XCode.cutB 7 (XCode.cutR 5 xf3.body) = .block 2 (.loop xf3l1) := rfl
  rw [o1, thenC_normal, hB2, Run_block]
  generalize outT X _ tm2 σ2 = tm3 at *
  generalize outS X _ tm2 σ2 = σ3 at *
  obtain ⟨q1, q2⟩ := out_of (loop3b (X := X) (u := u) (v := v) (s := s) (z := z) (L := L) (M := M) (w := .list 3 (rds l) none) (N := N) (rn := rn) (dn := dn) (t7 := .list 3 (rds (lst (uF l) l.length)) (some j1)) (t8 := .list 3 (rds (lst (bF l) l.length)) (some j2)) (by omega) (by omega) (fun i hi => by rw [rlen] at hi ⊢; exact hdr i hi) (rn.length - 1) 0 (by omega) tm3 σ3 o2 o3)
  rw [q1, blockC_exit, thenC_normal]
  generalize outT X _ tm3 σ3 = tm4 at *
  generalize outS X _ tm3 σ3 = σ4 at *
  obtain ⟨hl, h3, h4, h5, h7, h8, h10, h13, h14, g0, g1, g2, g4, nx⟩ := q2
  have hN4 : σ4.next = N + 6 := nx.symm
  simp only [Lim.cells, List.cons_append, List.nil_append] at g2
  have hkd : ∀ t la kd, 1 ≤ t → t ≤ l.length → vG a b (wid L) (wid M) (stN a b 0 s (lst (uF l) l.length)) t = some (la, kd) → kd ≤ 1 := fun t la kd t0 t1 h => (hwide t t0 t1).2 la kd h
  have hcb : ∃ x1 x2 x3 e, (endR a b 0 z (lst (bF l) l.length) (wid L) (wid M) l.length 0).2.1 = .agg [.int .i64 x1, .int .i64 x2, .int .i64 x3] ∧ (endR a b 0 z (lst (bF l) l.length) (wid L) (wid M) l.length 0).2.2 = e ∧ (e = 12 ∨ e = 0) ∧ ((∃ t, 1 ≤ t ∧ t < l.length ∧ vG a b (wid L) (wid M) (stN a b 0 s (lst (uF l) l.length)) t ≠ none) → e = 0) := by
    rcases cb with ⟨h1, h2⟩ | ⟨t, ⟨la, kd⟩, t0, t1, h2, h1⟩
    · refine ⟨0, 0, 0, 12, by rw [h1]; rfl, by rw [h1], .inl rfl, fun ⟨t, t0, t1, ht⟩ => ?_⟩
      exfalso
      apply ht
      rw [(hwide t t0 (by omega)).1]
      exact h2 _ (by omega) (by omega)
    · exact ⟨t, la, kd, 0, by rw [h1]; rfl, by rw [h1], .inr rfl, fun _ => rfl⟩
  obtain ⟨x1, x2, x3, e, hx, hxe, he12, hez⟩ := hcb
  simp only [wid] at hx hxe
  rw [hx, hxe] at z18b
  rcases cu with ⟨h1, h2⟩ | ⟨t, ⟨la, kd⟩, t0, t1, h2, h1⟩
  · simp only [wid] at h1
    rw [h1] at z18u
    simp only [zero3] at z18u
    rcases he12 with rfl | rfl
    · simp [xf3, XCode.cutR, hl, h3, h4, h5, h7, h8, h10, h13, h14, g0, g1, g2, g4, hN4, t31, cU, cB, z18u, z18b, ha.one, ha.strip, ha.free, hb.one, hb.strip, hb.free, ha'.one, ha'.strip, ha'.free, hb'.one, hb'.strip, hb'.free, rds_strip, rds_free, put_next, new_next, Store.get_new, Store.get_put, put_get, setR, only_get, merge_get', only_next, merge_next, upTo_self, upTo_one, merge_only, touch, wrote, isIn, okRec, hits, capsOf, xcaps, stripL, AVal.strip, freeL, AVal.free, fillR, chunks, mkV]
    · simp [xf3, XCode.cutR, hl, h3, h4, h5, h7, h8, h10, h13, h14, g0, g1, g2, g4, hN4, t31, cU, cB, z18u, z18b, ha.one, ha.strip, ha.free, hb.one, hb.strip, hb.free, ha'.one, ha'.strip, ha'.free, hb'.one, hb'.strip, hb'.free, rds_strip, rds_free, put_next, new_next, Store.get_new, Store.get_put, put_get, setR, only_get, merge_get', only_next, merge_next, upTo_self, upTo_one, merge_only, touch, wrote, isIn, okRec, hits, capsOf, xcaps, stripL, AVal.strip, freeL, AVal.free, fillR, chunks, mkV]
  · have hk := hkd t la kd (by omega) (by omega) h2
    have hk' : (kd : Int) ≤ 1 := by omega
    simp only [wid] at h1
    rw [h1] at z18u
    simp only [vV] at z18u
    have c1 : wi (t : Int) 1 (l.length : Int) = true := by simp [wi]; omega
    by_cases htn : t = l.length
    · rw [htn] at z18u c1
      simp [xf3, XCode.cutR, hl, h3, h4, h5, h7, h8, h10, h13, h14, g0, g1, g2, g4, hN4, t31, cU, cB, z18u, z18b, t25, c1, hk, hk', ha.one, ha.strip, ha.free, hb.one, hb.strip, hb.free, ha'.one, ha'.strip, ha'.free, hb'.one, hb'.strip, hb'.free, rds_strip, rds_free, put_next, new_next, Store.get_new, Store.get_put, put_get, setR, only_get, merge_get', only_next, merge_next, upTo_self, upTo_one, merge_only, touch, wrote, isIn, okRec, hits, capsOf, xcaps, stripL, AVal.strip, freeL, AVal.free, fillR, chunks, mkV]
    · have htn' : ¬ (t : Int) = l.length := by omega
      have e0 := hez ⟨t, by omega, by omega, by rw [h2]; simp⟩
      subst e0
      simp [xf3, XCode.cutR, hl, h3, h4, h5, h7, h8, h10, h13, h14, g0, g1, g2, g4, hN4, t31, cU, cB, z18u, z18b, t25, c1, hk, hk', htn, htn', ha.one, ha.strip, ha.free, hb.one, hb.strip, hb.free, ha'.one, ha'.strip, ha'.free, hb'.one, hb'.strip, hb'.free, rds_strip, rds_free, put_next, new_next, Store.get_new, Store.get_put, put_get, setR, only_get, merge_get', only_next, merge_next, upTo_self, upTo_one, merge_only, touch, wrote, isIn, okRec, hits, capsOf, xcaps, stripL, AVal.strip, freeL, AVal.free, fillR, chunks, mkV]
end
end Go.Proofs.Ytbgjmclpahganaa.Eng
