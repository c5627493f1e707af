/-
  ENGINE, O: regions whose order is drawn: all orders.
-/
import Derived.Test.YtgijgcmcpgepaaaEngN
namespace Go.Proofs.Ytgijgcmcpgepaaa.Eng
set_option linter.unusedSimpArgs false
set_option linter.unusedVariables false

inductive Chain (P : Program) (cr : Code → XCode → Prop) : List XOper → List (List Nat × List Nat) → List AVal → Store → List Inf → List AVal → Store → Prop
  | nil (recs tm σ) : Chain P cr [] recs tm σ [] tm σ
  | cons (l recs fs tm' σ') (f : Inf) : InfOk P cr f → okRec recs 0 f.x.pre f.tch f.wr = true → f.σ.next ≤ f.τ.next → Chain P cr l (recs ++ [(f.tch, f.wr)]) (putT f.tm f.x.dst f.v) (f.σ.merge f.τ f.wr) fs tm' σ' → Chain P cr (f.x :: l) recs f.tm f.σ (f :: fs) tm' σ'

def Wt (fs : List Inf) (t : Nat) (j : Nat) : Option AVal := match fs[j]? with
  | some f => if f.x.dst = some t then some f.v else none
  | none => none
def Wn (fs : List Inf) (n : Nat) (j : Nat) : Option (Option NObj) := match fs[j]? with
  | some f => if n ∈ f.wr then some (f.τ.get n) else none
  | none => none

structure Canon (fs : List Inf) (tm0 : List AVal) (σ0 : Store) (i : Nat) (tm : List AVal) (σ : Store) : Prop where
  len : tm.length = tm0.length
  tmv : ∀ t, t < tm0.length → tm[t]? = some (lastV (Wt fs t) (fun _ => true) (tm0.getD t aundef) i)
  σv : ∀ n, σ.get n = lastV (Wn fs n) (fun _ => true) (σ0.get n) i

theorem putT_length (tm : List AVal) (d : Option Nat) (v : AVal) : (putT tm d v).length = tm.length := by
  cases d <;> simp [putT]

theorem canon_succ {fs : List Inf} {tm0 : List AVal} {σ0 : Store} {k : Nat} {f : Inf} (hf : fs[k]? = some f) (c : Canon fs tm0 σ0 k f.tm f.σ) : Canon fs tm0 σ0 (k + 1) (putT f.tm f.x.dst f.v) (f.σ.merge f.τ f.wr) := by
  refine ⟨by rw [putT_length]; exact c.len, fun t ht => ?_, fun n => ?_⟩
  · simp only [lastV, if_true, Wt, hf]
    by_cases hd : f.x.dst = some t
    · rw [if_pos hd, hd]
      simp only [putT, Option.getD_some]
      rw [List.getElem?_set_self (by rw [c.len]; exact ht)]
    · rw [if_neg hd]
      simp only [Option.getD_none]
      rw [← c.tmv t ht]
      cases hdd : f.x.dst with
      | none => rfl
      | some d =>
        have hne : d ≠ t := fun e => hd (by rw [hdd, e])
        simp only [putT]
        rw [List.getElem?_set_ne hne]
  · simp only [lastV, if_true, Wn, hf]
    rw [merge_get]
    unfold over
    by_cases hn : n ∈ f.wr
    · rw [if_pos hn, if_pos hn]; rfl
    · rw [if_neg hn, if_neg hn]
      simp only [Option.getD_none]
      exact c.σv n

theorem chain_canon {P : Program} {cr : Code → XCode → Prop} {l : List XOper} {recs : List (List Nat × List Nat)} {tm tm' : List AVal} {σ σ' : Store} {gs : List Inf} (h : Chain P cr l recs tm σ gs tm' σ') : ∀ (fs : List Inf) (tm0 : List AVal) (σ0 : Store) (k : Nat), fs.drop k = gs → Canon fs tm0 σ0 k tm σ →
    (∀ i f, gs[i]? = some f → Canon fs tm0 σ0 (k + i) f.tm f.σ) ∧ Canon fs tm0 σ0 (k + gs.length) tm' σ' := by
  induction h with
  | nil recs tm σ => intro fs tm0 σ0 k hd c; exact ⟨fun i f h => by simp at h, by simpa using c⟩
  | cons l recs gs tm' σ' f h1 h2 h3 _ ih =>
    intro fs tm0 σ0 k hd c
    have hk : fs[k]? = some f := by
      have : (fs.drop k)[0]? = some f := by rw [hd]; rfl
      rw [List.getElem?_drop] at this
      simpa using this
    have hd' : fs.drop (k + 1) = gs := by
      rw [← List.drop_drop, hd]; rfl
    obtain ⟨k1, k2⟩ := ih fs tm0 σ0 (k + 1) hd' (canon_succ hk c)
    refine ⟨fun i g hg => ?_, ?_⟩
    · cases i with
      | zero => simp at hg; subst hg; exact c
      | succ i =>
        have := k1 i g (by simpa using hg)
        rwa [show k + (i + 1) = k + 1 + i from by omega]
    · simp only [List.length_cons]
      rwa [show k + (gs.length + 1) = k + 1 + gs.length from by omega]

theorem chain_next {P : Program} {cr : Code → XCode → Prop} {l : List XOper} {recs : List (List Nat × List Nat)} {tm tm' : List AVal} {σ σ' : Store} {gs : List Inf} (h : Chain P cr l recs tm σ gs tm' σ') :
    σ.next ≤ σ'.next ∧ (∀ (i : Nat) (f : Inf), gs[i]? = some f → σ.next ≤ f.σ.next ∧ f.σ.next ≤ f.τ.next ∧ f.τ.next ≤ σ'.next) ∧ (∀ (i j : Nat) (f g : Inf), i < j → gs[i]? = some f → gs[j]? = some g → f.τ.next ≤ g.σ.next) := by
  induction h with
  | nil recs tm σ => exact ⟨Nat.le_refl _, fun i f h => by simp at h, fun i j f g _ h => by simp at h⟩
  | cons l recs gs tm' σ' f h1 h2 h3 _ ih =>
    obtain ⟨k0, k1, k2⟩ := ih
    have hm : (f.σ.merge f.τ f.wr).next = f.τ.next := rfl
    rw [hm] at k0 k1
    refine ⟨by omega, fun i g hg => ?_, fun i j g g' hij hg hg' => ?_⟩
    · cases i with
      | zero => simp at hg; subst hg; exact ⟨Nat.le_refl _, h3, k0⟩
      | succ i => obtain ⟨a, b, c⟩ := k1 i g (by simpa using hg); exact ⟨by omega, b, c⟩
    · cases j with
      | zero => omega
      | succ j =>
        cases i with
        | zero => simp at hg; subst hg; exact (k1 j g' (by simpa using hg')).1
        | succ i => exact k2 i j g g' (by omega) (by simpa using hg) (by simpa using hg')

theorem okRec_get {pre tch wr : List Nat} : ∀ (l : List (List Nat × List Nat)) (k i : Nat) (p : List Nat × List Nat), okRec l k pre tch wr = true → l[i]? = some p → (k + i ∈ pre) ∨ (hits p.1 wr = false ∧ hits p.2 tch = false ∧ hits p.2 wr = false)
  | [], k, i, p, _, h => by simp at h
  | (t, w) :: l, k, i, p, ho, h => by
    simp only [okRec, Bool.and_eq_true, Bool.or_eq_true, Bool.not_eq_true'] at ho
    cases i with
    | zero =>
      simp at h; subst h
      rcases ho.1 with h1 | h1
      · left
        obtain ⟨x, hx, hb⟩ := List.any_eq_true.1 h1
        rw [Nat.beq_eq] at hb
        rw [Nat.add_zero, hb]; exact hx
      · exact .inr ⟨h1.1.1, h1.1.2, h1.2⟩
    | succ i =>
      have := okRec_get l (k + 1) i p ho.2 (by simpa using h)
      rwa [show k + 1 + i = k + (i + 1) from by omega] at this
theorem hits_false {l m : List Nat} (h : hits l m = false) {x : Nat} (h1 : x ∈ l) : x ∉ m := fun h2 => by
  have : hits l m = true := by
    unfold hits
    rw [List.any_eq_true]
    exact ⟨x, h1, by rw [List.any_eq_true]; exact ⟨x, h2, by rw [Nat.beq_eq]⟩⟩
  rw [this] at h; cases h

theorem chain_rec {P : Program} {cr : Code → XCode → Prop} {l : List XOper} {recs : List (List Nat × List Nat)} {tm tm' : List AVal} {σ σ' : Store} {gs : List Inf} (h : Chain P cr l recs tm σ gs tm' σ') :
    l = gs.map (·.x) ∧ (∀ (j : Nat) (f : Inf), gs[j]? = some f → InfOk P cr f ∧ okRec (recs ++ (gs.take j).map fun f => (f.tch, f.wr)) 0 f.x.pre f.tch f.wr = true) := by
  induction h with
  | nil recs tm σ => exact ⟨rfl, fun j f h => by simp at h⟩
  | cons l recs gs tm' σ' f h1 h2 h3 _ ih =>
    obtain ⟨k1, k2⟩ := ih
    refine ⟨by rw [k1]; rfl, fun j g hg => ?_⟩
    cases j with
    | zero => simp at hg; subst hg; exact ⟨h1, by simpa using h2⟩
    | succ j =>
      obtain ⟨a, b⟩ := k2 j g (by simpa using hg)
      refine ⟨a, ?_⟩
      simp only [List.take_succ_cons, List.map_cons]
      rwa [List.append_assoc, List.singleton_append] at b

theorem statOk_get : ∀ (l past : List XOper) (k : Nat), k = past.length → statOk past k l = true → ∀ (i j : Nat) (x y : XOper), i < j → (past ++ l)[i]? = some x → (past ++ l)[j]? = some y → past.length ≤ j → (i ∈ y.pre) ∨ (meets x y = false ∧ meets y x = false)
  | [], past, k, hk, h, i, j, x, y, hij, hx, hy, hj => by
    rw [List.append_nil, List.getElem?_eq_none (by omega)] at hy; cases hy
  | o :: l, past, k, hk, h, i, j, x, y, hij, hx, hy, hj => by
    simp only [statOk, Bool.and_eq_true] at h
    rcases Nat.eq_or_lt_of_le hj with he | hlt
    · have hyo : y = o := by
        rw [List.getElem?_append_right hj, he, Nat.sub_self] at hy
        simpa using hy.symm
      subst hyo
      rw [List.getElem?_append_left (by omega)] at hx
      have h1 := List.all_eq_true.1 h.1 (x, i) (by
        rw [List.mem_iff_getElem?]
        exact ⟨i, by rw [List.getElem?_zipIdx, hx]; simp⟩)
      simp only [Bool.or_eq_true, Bool.and_eq_true, Bool.not_eq_true'] at h1
      exact h1.imp isIn_iff.1 id
    · refine statOk_get l (past ++ [o]) (k + 1) (by simp [hk]) h.2 i j x y hij (by simpa using hx) (by simpa using hy) (by simp; omega)

theorem meets_false {x y : XOper} (h : meets x y = false) {d : Nat} (hd : x.dst = some d) : d ∉ y.looks ∧ y.dst ≠ some d := by
  unfold meets at h
  simp only [hd, Bool.or_eq_false_iff] at h
  refine ⟨fun hm => ?_, fun he => ?_⟩
  · rw [isIn_iff.2 hm] at h; cases h.1
  · have h2 := h.2
    simp only [he] at h2
    have hb : Nat.beq d d = true := by rw [Nat.beq_eq]
    rw [hb] at h2; cases h2
end Go.Proofs.Ytgijgcmcpgepaaa.Eng
