/-
  ENGINE, Z: calls, values of types, rows.
-/
import Derived.Test.YtgijgcmcpgepaaaEngY
import Derived.Test.YtgijgcmcpgepaaaEngV
import Derived.IntWalk
namespace Go.Proofs.Ytgijgcmcpgepaaa.Eng
open Go.RowKit Go.ChangeShapes Go.WideShapes
set_option linter.unusedSimpArgs false
set_option linter.unusedVariables false

/-! What has no address is as it stands. -/
mutual
theorem free_strip : ∀ {v : AVal}, v.free = true → v.strip = v
  | .bool _, _ | .int _ _, _ | .str _, _ | .nils, _ | .nilp, _ | .nilfn, _ | .nilm, _ | .nili, _ | .errv, _ | .flt _ _, _ | .cpx _ _ _, _ => by simp [AVal.strip]
  | .list s xs tok, h => by
    simp only [AVal.free, Bool.and_eq_true, Option.isNone_iff_eq_none] at h
    simp [AVal.strip, freeL_strip h.1, h.2]
  | .mlist .., h | .vlist .., h | .ptr .., h | .map .., h | .yld .., h => by simp [AVal.free] at h
  | .iptr cs off, h => by simp only [AVal.free] at h; simp [AVal.strip, freeL_strip h]
  | .fn f a b, h => by
    simp only [AVal.free, Bool.and_eq_true] at h
    simp [AVal.strip, freeL_strip h.1, freeL_strip h.2]
  | .agg cs, h => by simp only [AVal.free] at h; simp [AVal.strip, freeL_strip h]
  | .tup cs, h => by simp only [AVal.free] at h; simp [AVal.strip, freeL_strip h]
theorem freeL_strip : ∀ {l : List AVal}, freeL l = true → stripL l = l
  | [], _ => by simp [stripL]
  | x :: l, h => by
    simp only [freeL, Bool.and_eq_true] at h
    simp [stripL, free_strip h.1, freeL_strip h.2]
end
theorem freeL_all {l : List AVal} : freeL l = true ↔ ∀ x ∈ l, x.free = true := by
  induction l with
  | nil => simp [freeL]
  | cons x l ih => simp [freeL, ih]
theorem freeL_append (l m : List AVal) : freeL (l ++ m) = (freeL l && freeL m) := by
  induction l with
  | nil => simp [freeL]
  | cons x l ih => simp [freeL, ih, Bool.and_assoc]

section
variable {X : FuncId → Option XFunc}
theorem eval_frame (args : List AVal) (k i : Nat) (hi : i < args.length) : XOpd.eval (args ++ List.replicate k aundef) (.t i) = args[i] := by
  simp [XOpd.eval, List.getD_eq_getElem?_getD, List.getElem?_append_left hi, List.getElem?_eq_getElem hi]

theorem xresult_one (tm : List AVal) (σ : Store) (r : XRet) : xresult tm σ [r] = xret tm σ r := by
  simp only [xresult, xrets]
  cases xret tm σ r <;> rfl
theorem xresult_two (tm : List AVal) (σ : Store) (r s : XRet) (x y : AVal) (h1 : xret tm σ r = some x) (h2 : xret tm σ s = some y) : xresult tm σ [r, s] = some (.tup [x, y]) := by
  simp [xresult, xrets, h1, h2]
theorem xret_t (tm : List AVal) (σ : Store) (n : Nat) : xret tm σ (.t n) = some (XOpd.eval tm (.t n)) := rfl

theorem xret_cn (tm : List AVal) (σ : Store) (n k : Nat) : xret tm σ (.cn n k) = match xload σ (XOpd.eval tm (.t n)) with
  | some (cs, off) => if off + k ≤ cs.length then some (.agg ((cs.drop off).take k)) else none
  | none => none := rfl
theorem xret_c1 (tm : List AVal) (σ : Store) (n : Nat) : xret tm σ (.c1 n) = match xload σ (XOpd.eval tm (.t n)) with
  | some (cs, off) => cs[off]?
  | none => none := rfl
def givesR (rs : List XRet) (v : AVal) : Option RRes → Prop
  | some (.ret, tm, τ) => xresult tm τ rs = some v
  | some (.normal, tm, τ) => xresult tm τ rs = some v
  | _ => False
theorem givesR_ret (rs : List XRet) (v : AVal) (tm : List AVal) (τ : Store) : givesR rs v (some (.ret, tm, τ)) = (xresult tm τ rs = some v) := rfl
theorem givesR_normal (rs : List XRet) (v : AVal) (tm : List AVal) (τ : Store) : givesR rs v (some (.normal, tm, τ)) = (xresult tm τ rs = some v) := rfl
/-- A body, from its arguments to its result. -/
def Gives (X : FuncId → Option XFunc) (xf : XFunc) (tm : List AVal) (v : AVal) : Prop := givesR xf.results v (Run X (.code xf.body) tm Store.empty)

theorem call_pure {f : FuncId} {xf : XFunc} {args : List AVal} {v : AVal} (hx : X f = some xf) (hf : freeL (stripL args) = true)
    (h : Gives X xf (stripL args ++ List.replicate (xf.ntmps - (stripL args).length) aundef) v) (hv : v.strip.free = true) (σ : Store) :
    Run X (.call f) args σ = some (.ret, [v.strip], σ) := by
  have key : ∃ e tm τ, Run X (.code xf.body) (stripL args ++ List.replicate (xf.ntmps - (stripL args).length) aundef) Store.empty = some (e, tm, τ) ∧ (e = .ret ∨ e = .normal) ∧ xresult tm τ xf.results = some v := by
    unfold Gives at h
    rcases e : Run X (.code xf.body) (stripL args ++ List.replicate (xf.ntmps - (stripL args).length) aundef) Store.empty with _ | ⟨ex, tm, τ⟩
    · rw [e] at h; exact h.elim
    · rw [e] at h
      cases ex with
      | ret => exact ⟨_, _, _, rfl, .inl rfl, h⟩
      | normal => exact ⟨_, _, _, rfl, .inr rfl, h⟩
      | exit i => exact h.elim
  obtain ⟨e, tm, τ, h1, h2, h3⟩ := key
  have hs : sealR τ v = some v.strip := by simp [sealR, hv]
  rw [Run_step]
  simp only [step, hx, hf, if_true, h1]
  rcases h2 with rfl | rfl <;> simp only [h3, hs]

theorem call1 {f : FuncId} {xf : XFunc} {a v : AVal} (hx : X f = some xf) (hf : a.strip.free = true) (hn : 1 ≤ xf.ntmps)
    (h : ∀ tm, tm.length = xf.ntmps → XOpd.eval tm (.t 0) = a.strip → Gives X xf tm v) (hv : v.strip.free = true) (σ : Store) : Run X (.call f) [a] σ = some (.ret, [v.strip], σ) := by
  refine call_pure hx (by simp [stripL, freeL, hf]) (h _ (by simp [stripL]; omega) ?_) hv σ
  rw [eval_frame _ _ _ (by simp [stripL])]; simp [stripL]
theorem call2 {f : FuncId} {xf : XFunc} {a b v : AVal} (hx : X f = some xf) (hf : a.strip.free = true) (hg : b.strip.free = true) (hn : 2 ≤ xf.ntmps)
    (h : ∀ tm, tm.length = xf.ntmps → XOpd.eval tm (.t 0) = a.strip → XOpd.eval tm (.t 1) = b.strip → Gives X xf tm v) (hv : v.strip.free = true) (σ : Store) : Run X (.call f) [a, b] σ = some (.ret, [v.strip], σ) := by
  refine call_pure hx (by simp [stripL, freeL, hf, hg]) (h _ (by simp [stripL]; omega) ?_ ?_) hv σ
  all_goals (rw [eval_frame _ _ _ (by simp [stripL])]; simp [stripL])
theorem call3 {f : FuncId} {xf : XFunc} {a b c v : AVal} (hx : X f = some xf) (hf : a.strip.free = true) (hg : b.strip.free = true) (hh : c.strip.free = true) (hn : 3 ≤ xf.ntmps)
    (h : ∀ tm, tm.length = xf.ntmps → XOpd.eval tm (.t 0) = a.strip → XOpd.eval tm (.t 1) = b.strip → XOpd.eval tm (.t 2) = c.strip → Gives X xf tm v) (hv : v.strip.free = true) (σ : Store) : Run X (.call f) [a, b, c] σ = some (.ret, [v.strip], σ) := by
  refine call_pure hx (by simp [stripL, freeL, hf, hg, hh]) (h _ (by simp [stripL]; omega) ?_ ?_ ?_) hv σ
  all_goals (rw [eval_frame _ _ _ (by simp [stripL])]; simp [stripL])

/-! Results of which something is known. -/
def holdsO (Φ : AVal → Prop) : Option AVal → Prop
  | some v => Φ v
  | none => False
def givesE (rs : List XRet) (Φ : AVal → Prop) : Option RRes → Prop
  | some (.ret, tm, τ) => holdsO Φ (xresult tm τ rs)
  | some (.normal, tm, τ) => holdsO Φ (xresult tm τ rs)
  | _ => False
theorem holdsO_some (Φ : AVal → Prop) (v : AVal) : holdsO Φ (some v) = Φ v := rfl
theorem givesE_ret (rs : List XRet) (Φ : AVal → Prop) (tm : List AVal) (τ : Store) : givesE rs Φ (some (.ret, tm, τ)) = holdsO Φ (xresult tm τ rs) := rfl
theorem givesE_normal (rs : List XRet) (Φ : AVal → Prop) (tm : List AVal) (τ : Store) : givesE rs Φ (some (.normal, tm, τ)) = holdsO Φ (xresult tm τ rs) := rfl
/-- A body, from its arguments to something about its result. -/
def GivesE (X : FuncId → Option XFunc) (xf : XFunc) (tm : List AVal) (Φ : AVal → Prop) : Prop := givesE xf.results Φ (Run X (.code xf.body) tm Store.empty)
theorem GivesE.gives {X : FuncId → Option XFunc} {xf : XFunc} {tm : List AVal} {Φ : AVal → Prop} (h : GivesE X xf tm Φ) : ∃ v, Gives X xf tm v ∧ Φ v := by
  unfold GivesE at h
  unfold Gives
  rcases e : Run X (.code xf.body) tm Store.empty with _ | ⟨ex, tm', τ⟩
  · rw [e] at h; exact h.elim
  · rw [e] at h
    cases ex with
    | ret => simp only [givesE] at h; cases hr : xresult tm' τ xf.results with
      | none => rw [hr] at h; exact h.elim
      | some v => rw [hr] at h; exact ⟨v, hr, h⟩
    | normal => simp only [givesE] at h; cases hr : xresult tm' τ xf.results with
      | none => rw [hr] at h; exact h.elim
      | some v => rw [hr] at h; exact ⟨v, hr, h⟩
    | exit i => exact h.elim
/-- What is told of a result. -/
def Told (Φ : AVal → Prop) (v : AVal) : Prop := v.strip.free = true ∧ Φ v.strip
theorem call1E {f : FuncId} {xf : XFunc} {a : AVal} {Φ : AVal → Prop} (hx : X f = some xf) (hf : a.strip.free = true) (hn : 1 ≤ xf.ntmps)
    (h : ∀ tm, tm.length = xf.ntmps → XOpd.eval tm (.t 0) = a.strip → GivesE X xf tm (Told Φ)) : ∃ w, Φ w ∧ ∀ σ, Run X (.call f) [a] σ = some (.ret, [w], σ) := by
  obtain ⟨v, h1, h2, h3⟩ := (h (stripL [a] ++ List.replicate (xf.ntmps - (stripL [a]).length) aundef) (by simp [stripL]; omega) (by rw [eval_frame _ _ _ (by simp [stripL])]; simp [stripL])).gives
  exact ⟨_, h3, fun σ => call_pure hx (by simp [stripL, freeL, hf]) h1 h2 σ⟩
theorem call2E {f : FuncId} {xf : XFunc} {a b : AVal} {Φ : AVal → Prop} (hx : X f = some xf) (hf : a.strip.free = true) (hg : b.strip.free = true) (hn : 2 ≤ xf.ntmps)
    (h : ∀ tm, tm.length = xf.ntmps → XOpd.eval tm (.t 0) = a.strip → XOpd.eval tm (.t 1) = b.strip → GivesE X xf tm (Told Φ)) : ∃ w, Φ w ∧ ∀ σ, Run X (.call f) [a, b] σ = some (.ret, [w], σ) := by
  obtain ⟨v, h1, h2, h3⟩ := (h (stripL [a, b] ++ List.replicate (xf.ntmps - (stripL [a, b]).length) aundef) (by simp [stripL]; omega) (by rw [eval_frame _ _ _ (by simp [stripL])]; simp [stripL]) (by rw [eval_frame _ _ _ (by simp [stripL])]; simp [stripL])).gives
  exact ⟨_, h3, fun σ => call_pure hx (by simp [stripL, freeL, hf, hg]) h1 h2 σ⟩
theorem call3E {f : FuncId} {xf : XFunc} {a b c : AVal} {Φ : AVal → Prop} (hx : X f = some xf) (hf : a.strip.free = true) (hg : b.strip.free = true) (hh : c.strip.free = true) (hn : 3 ≤ xf.ntmps)
    (h : ∀ tm, tm.length = xf.ntmps → XOpd.eval tm (.t 0) = a.strip → XOpd.eval tm (.t 1) = b.strip → XOpd.eval tm (.t 2) = c.strip → GivesE X xf tm (Told Φ)) : ∃ w, Φ w ∧ ∀ σ, Run X (.call f) [a, b, c] σ = some (.ret, [w], σ) := by
  obtain ⟨v, h1, h2, h3⟩ := (h (stripL [a, b, c] ++ List.replicate (xf.ntmps - (stripL [a, b, c]).length) aundef) (by simp [stripL]; omega) (by rw [eval_frame _ _ _ (by simp [stripL])]; simp [stripL]) (by rw [eval_frame _ _ _ (by simp [stripL])]; simp [stripL]) (by rw [eval_frame _ _ _ (by simp [stripL])]; simp [stripL])).gives
  exact ⟨_, h3, fun σ => call_pure hx (by simp [stripL, freeL, hf, hg, hh]) h1 h2 σ⟩

theorem wrap_i64 {n : Int} (h1 : -9223372036854775808 ≤ n) (h2 : n ≤ 9223372036854775807) : IntKind.i64.wrap n = n := Go.IntWalk.i64_in n ⟨h1, h2⟩
end

attribute [simp] holdsO_some givesE_ret givesE_normal xresult_one xret_t xret_cn xret_c1 givesR_ret givesR_normal

/-- What has no address is called the same everywhere. -/
theorem pure_any {X : FuncId → Option XFunc} {f : FuncId} {args : List AVal} {v : AVal} (hf : freeL (stripL args) = true) (h : Run X (.call f) args Store.empty = some (.ret, [v], Store.empty)) (σ : Store) : Run X (.call f) args σ = some (.ret, [v], σ) := by
  rw [Run_step] at h ⊢
  simp only [step] at h ⊢
  split at h
  · cases h
  · next xf hx =>
    simp only [hf, if_true] at h ⊢
    split at h
    · cases h
    · split at h
      · split at h
        · next hs =>
          simp only [Option.some.injEq, Prod.mk.injEq, List.cons.injEq, and_true, true_and] at h
          simp only [*]
        · cases h
      · cases h
    · cases h

/-! Values of types. -/
section
variable {P : Program}
theorem HasV.int_inv {t : TypeId} {k : IntKind} {x : AVal} (ht : P.underlying t = some (.int k)) (h : HasV P t x) : ∃ n, x = .int k n ∧ (Lit.int k n).wf = true := by
  cases h with
  | int t k' n h1 h2 => rw [ht] at h1; obtain rfl : k = k' := by simpa using h1
                        exact ⟨n, rfl, h2⟩
  | bool t b h1 => rw [ht] at h1; cases h1
  | str t s h1 h2 => rw [ht] at h1; cases h1
  | nils t e h1 => rw [ht] at h1; cases h1
  | list t e xs h1 => rw [ht] at h1; cases h1
  | struct t fs vs h1 => rw [ht] at h1; cases h1
  | array t e n vs h1 => rw [ht] at h1; cases h1
theorem HasV.slice_inv {t e : TypeId} {x : AVal} (ht : P.underlying t = some (.slice e)) (h : HasV P t x) : x = .nils ∨ ∃ xs, x = .list (P.cellsOf e) xs none ∧ xs.length ≤ maxLen ∧ ∀ y ∈ xs, HasV P e y := by
  cases h with
  | int t k' n h1 h2 => rw [ht] at h1; cases h1
  | bool t b h1 => rw [ht] at h1; cases h1
  | str t s h1 h2 => rw [ht] at h1; cases h1
  | nils t e h1 => exact .inl rfl
  | list t e' xs h1 h2 h3 =>
    rw [ht] at h1; obtain rfl : e = e' := by simpa using h1
    exact .inr ⟨xs, rfl, h2, fun y hy => by obtain ⟨i, hi, rfl⟩ := List.getElem_of_mem hy; exact h3 i _ (List.getElem?_eq_getElem hi)⟩
  | struct t fs vs h1 => rw [ht] at h1; cases h1
  | array t e n vs h1 => rw [ht] at h1; cases h1
theorem HasV.struct_inv {t : TypeId} {fs : Array Field} {x : AVal} (ht : P.underlying t = some (.struct fs)) (h : HasV P t x) : ∃ vs : List AVal, x = .agg (vs.flatMap AVal.cells) ∧ vs.length = fs.toList.length ∧ ∀ (i : Nat) (f : Field) (y : AVal), fs.toList[i]? = some f → vs[i]? = some y → HasV P f.type y := by
  cases h with
  | int t k' n h1 h2 => rw [ht] at h1; cases h1
  | bool t b h1 => rw [ht] at h1; cases h1
  | str t s h1 h2 => rw [ht] at h1; cases h1
  | nils t e h1 => rw [ht] at h1; cases h1
  | list t e xs h1 => rw [ht] at h1; cases h1
  | struct t fs' vs h1 h2 h3 => rw [ht] at h1; obtain rfl : fs = fs' := by simpa using h1
                                exact ⟨vs, rfl, h2, h3⟩
  | array t e n vs h1 => rw [ht] at h1; cases h1

/-- A run without fuel gives a call, where some functions are given. -/
theorem pure_of_known {nofz : List FuncId} {X : FuncId → Option XFunc} (hm : P.follows .mixedOrders = true) (hX : Known P nofz X) {f : FuncId} {xs : List AVal} {v : AVal} (hf : freeL (stripL xs) = true) (h : Run X (.call f) xs Store.empty = some (.ret, [v], Store.empty)) : PureOk P f xs v := by
  obtain ⟨n, hn⟩ := (Run_iff _ _ _ _ _).mp h
  exact ((all_ok hm hX n).pure f xs _ _ v _ hf hn).1
/-- A run without fuel gives a call. -/
theorem pure_of_run {nofz : List FuncId} (hm : P.follows .mixedOrders = true) {f : FuncId} {xs : List AVal} {v : AVal} (hf : freeL (stripL xs) = true) (h : Run (xprog P nofz) (.call f) xs Store.empty = some (.ret, [v], Store.empty)) : PureOk P f xs v := by
  obtain ⟨n, hn⟩ := (Run_iff _ _ _ _ _).mp h
  exact ((all_ok hm (known_xprog P nofz) n).pure f xs _ _ v _ hf hn).1
end
end Go.Proofs.Ytgijgcmcpgepaaa.Eng
