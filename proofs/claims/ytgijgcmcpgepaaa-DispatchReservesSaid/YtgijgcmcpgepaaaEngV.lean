/-
  ENGINE, V: from a run to a row.
-/
import Derived.Test.YtgijgcmcpgepaaaEngU
namespace Go.Proofs.Ytgijgcmcpgepaaa.Eng
open Go.RowKit Go.ChangeShapes Go.WideShapes
set_option linter.unusedSimpArgs false
set_option linter.unusedVariables false

structure HasAll (P : Program) (ts : List TypeId) (xs : List AVal) : Prop where
  len : xs.length = ts.length
  val : ∀ (i : Nat) (t : TypeId) (x : AVal), ts[i]? = some t → xs[i]? = some x → HasV P t x

section
variable {H : Type} {enc : TypeId × Value → H} {P : Program} {w : World}

theorem arg_has {d base : Nat} {t : TypeId} {v : Value} {D : DataW H} {ps : List MemPlace} (hp : plain P d t = true) (hv : Value.okWide P w .any base t v) (h : DataW.Trod enc P w 0 (fun _ => true) true t v D ps) : ∃ x, HasV P t x ∧ VRel (ghostOf w) x v := by
  obtain ⟨fuel, hf⟩ := h
  obtain ⟨_, av, h1, h2⟩ := trod_has d t hp fuel _ _ hf
  rw [Array.toArray_toList] at h2
  have single : av.cells = [av] → v.cells = #[v] → VRel (ghostOf w) av v := fun e1 e2 => by
    rw [e1, e2] at h2
    exact h2.val 0 av v (by simp) (by simp)
  cases h1 with
  | int t k n ht hw => obtain ⟨m, rfl⟩ := okWide_int ht hv; exact ⟨_, .int t k n ht hw, single rfl rfl⟩
  | bool t b ht => obtain ⟨m, rfl⟩ := okWide_bool ht hv; exact ⟨_, .bool t b ht, single rfl rfl⟩
  | str t s ht hs => obtain ⟨m, rfl⟩ := okWide_string ht hv; exact ⟨_, .str t s ht hs, single rfl rfl⟩
  | nils t e ht => obtain ⟨a, l, c, rfl⟩ := okWide_slice ht hv; exact ⟨_, .nils t e ht, single rfl rfl⟩
  | list t e xs ht hl hx => obtain ⟨a, l, c, rfl⟩ := okWide_slice ht hv; exact ⟨_, .list t e xs ht hl hx, single rfl rfl⟩
  | struct t fs vs ht hl hx =>
    obtain ⟨cs, rfl, _⟩ := okWide_struct ht hv
    exact ⟨_, .struct t fs vs ht hl hx, VRel.mk_agg h2⟩
  | array t e n vs ht hl hx =>
    have : ∃ cs, v = .agg cs := by
      unfold Value.okWide at hv
      rw [ht] at hv
      obtain ⟨cs, h, _⟩ := hv
      exact ⟨cs, h⟩
    obtain ⟨cs, rfl⟩ := this
    exact ⟨_, .array t e n vs ht hl hx, VRel.mk_agg h2⟩

theorem args_has {base : Nat} : ∀ (ts : List TypeId) (vs : List Value) (ds : List (DataW H)) (ps : List MemPlace), ts.all (plain P 20) = true → DataW.TrodAll enc P w 0 (fun _ => true) true ts vs ds ps → (∀ (j : Nat) (t : TypeId) (v : Value), ts[j]? = some t → vs[j]? = some v → Value.okWide P w .any base t v) →
    ∃ xs, HasAll P ts xs ∧ ARel (ghostOf w) xs vs.toArray ∧ ds.length = ts.length
  | [], vs, ds, ps, _, h, _ => by
    obtain ⟨rfl, rfl, rfl⟩ := trodAll_nil h
    exact ⟨[], ⟨rfl, fun i t x h => by simp at h⟩, ARel.nil _, rfl⟩
  | t :: ts, vs, ds, ps, hp, h, hv => by
    obtain ⟨v, vs', d, ds', p, q, rfl, rfl, rfl, h1, h2⟩ := trodAll_cons h
    simp only [List.all_cons, Bool.and_eq_true] at hp
    obtain ⟨x, e1, e2⟩ := arg_has hp.1 (hv 0 t v rfl rfl) h1
    obtain ⟨xs, k1, k2, k3⟩ := args_has ts vs' ds' q hp.2 h2 (fun j t' v' a b => hv (j + 1) t' v' (by simpa using a) (by simpa using b))
    refine ⟨x :: xs, ⟨by simp [k1.len], fun i t' x' a b => ?_⟩, ⟨by have := k2.len; simpa using this, fun i x' v' a b => ?_⟩, by simp [k3]⟩
    · cases i with
      | zero => simp at a b; subst a; subst b; exact e1
      | succ i => exact k1.val i t' x' (by simpa using a) (by simpa using b)
    · cases i with
      | zero => simp at a b; subst a; subst b; exact e2
      | succ i => exact k2.val i x' v' (by simpa using a) (by simpa using b)

theorem ext_below {G G' : Ghost} {w' : World} (h : Ext G (fun _ => none) w G' (fun _ => none) w') : Below w.heap.size w w' :=
  ⟨h.os, h.tape, h.output, h.size, fun k hk => (h.keep k hk (fun ⟨n, hn⟩ => by rcases hn with ⟨cs, e, _⟩ | ⟨_, _, _, _, e, _⟩ | ⟨_, e, _⟩ <;> cases e)).1⟩

/-- A reading stays where memory stays. -/
theorem trodAll_below {T : TypeId → Prop} (K : Kids P T) (hsz : ∀ {t e : TypeId}, T t → P.underlying t = some (.slice e) → 0 < P.cellsOf e) {w' : World} (hb : Below w.heap.size w w') : ∀ (ts : List TypeId) (vs : List Value) (ds : List (DataW H)) (ps : List MemPlace), (∀ t, t ∈ ts → T t) →
    DataW.TrodAll enc P w 0 (fun _ => true) true ts vs ds ps → ∀ sp : Nat → Bool, (∀ p ∈ ps, sp p.block = true) → DataW.TrodAll enc P w' 0 sp true ts vs ds ps
  | [], vs, ds, ps, _, h, sp, _ => by
    obtain ⟨rfl, rfl, rfl⟩ := trodAll_nil h
    simp [DataW.TrodAll]
  | t :: ts, vs, ds, ps, hT, h, sp, hs => by
    obtain ⟨v, vs', d, ds', p, q, rfl, rfl, rfl, ⟨fuel, h1⟩, h2⟩ := trodAll_cons h
    have ih := trodAll_below K hsz hb ts vs' ds' q (fun t ht => hT t (List.mem_cons_of_mem _ ht)) h2 sp (fun x hx => hs x (List.mem_append_right _ hx))
    refine ⟨p, q, ⟨fuel, ?_⟩, ih, rfl⟩
    refine DataW.trod_stays K hsz (fun h => by cases h) (hT t List.mem_cons_self) h1 (fun x hx => hb.same ?_) (fun x hx => hs x (List.mem_append_left _ hx))
    exact DataW.trod_lt _ _ _ _ h1 x hx

def slicesOk (P : Program) : Bool := (List.range P.types.size).all fun t => match P.underlying t with
  | some (.slice e) => Nat.blt 0 (P.cellsOf e)
  | _ => true

/-- WHAT A RUN GIVES A ROW. -/
theorem law_contract {f : FuncId} {fn : Func} {tb : TypeId} {s : ChangeSpec} (hpl : fn.params.toList.all (plain P 20) = true) (hrow : fn.params.toList.all (fun t => decide (t < P.types.size)) = true) (hres : fn.resultTypes = #[tb]) (htb : P.underlying tb = some .bool)
    (hl : laidOutB P = true) (hm : mapsRowed P = true) (hso : slicesOk P = true) (hvars : s.vars = []) (hspec : ∀ ds : List (DataW H), ds.length = fn.params.toList.length → (s.fn H ds).results = [.lit (.bool true)] ∧ (s.fn H ds).args = ds ∧ (s.fn H ds).vars = [])
    (law : ∀ (xs : List AVal) (args' : Array Value), HasAll P fn.params.toList xs → ARel (ghostOf w) xs args' → Calls P f args' w fun e w' => e = .returned (.bool true) ∧ Below w.heap.size w w') (base : Nat) (args : Array Value) (ds gs : List (DataW H)) (before : List MemPlace)
    (hval : ∀ (j : Nat) t v, fn.params[j]? = some t → args[j]? = some v → Value.okWide P w .any base t v) (hW : DataW.Whole enc P fn.params.toList s.vars false w args.toList ds gs before) :
    Calls P f args w fun e w' => ∃ v, e = .returned v ∧ s.post enc P fn false true false false w args v w' := by
  have hW' := hW
  obtain ⟨p, q, hA, hV, rfl, hfz, hnd⟩ := hW
  rw [hvars] at hV
  obtain ⟨rfl, rfl⟩ := trodVars_none hV
  obtain ⟨xs, k1, k2, k3⟩ := args_has (base := base) fn.params.toList args.toList ds p hpl hA (fun j t v h1 h2 => hval j t v (by simpa using h1) (by simpa using h2))
  rw [Array.toArray_toList] at k2
  refine Calls.mono (law xs args k1 k2) ?_
  rintro e w' ⟨rfl, hb⟩
  obtain ⟨s1, s2, s3⟩ := hspec (ds ++ []) (by simp [k3])
  have hlt : ∀ x ∈ p, x.block < w.heap.size := DataW.TrodAll.lt hA
  have K := kids_rows hl hm
  have hargs : ∀ sp : Nat → Bool, (∀ x ∈ p, sp x.block = true) → DataW.TrodAll enc P w' 0 sp true fn.params.toList args.toList ds p := fun sp hsp =>
    trodAll_below K (fun {t e} ht hu => by
      have := List.all_eq_true.1 hso t (List.mem_range.2 ht)
      rw [hu] at this
      simpa using this) hb _ _ _ _ (fun t ht => by have := List.all_eq_true.1 hrow t ht; simpa using this) hA sp hsp
  refine ⟨_, rfl, ds, [], p ++ [], [], p, [], hW', ?_, ?_, ?_, ?_, fun h => by cases h⟩
  · rw [s1, hres]
    exact trodAll_cons_mk (shut_bool htb true) trodAll_mk0
  · rw [s2, List.append_nil]
    exact hargs _ (fun x hx => by simpa using hlt x hx)
  · rw [s3, hvars]; exact rfl
  · exact World.keptBut_mono (fun x hx => ⟨hx, .inr (.inl (by simpa using hx))⟩) (hb.frame (· ∈ p ++ []))

theorem pure_calls {f : FuncId} {xs : List AVal} {args' : Array Value} (h : PureOk P f xs (.bool true)) (hr : ARel (ghostOf w) xs args') : Calls P f args' w fun e w' => e = .returned (.bool true) ∧ Below w.heap.size w w' := by
  refine Calls.mono (h.2 (ghostOf w) (fun _ => none) w args' (core_of w) hr) ?_
  rintro e w' ⟨v, G', rfl, hc, hx, _, hv⟩
  cases hv
  exact ⟨rfl, ext_below hx⟩
end
end Go.Proofs.Ytgijgcmcpgepaaa.Eng
