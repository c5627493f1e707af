/-
  ENGINE, N: regions whose order is drawn: each operation.
-/
import Derived.Test.YtbpflcilndinfaaEngM
namespace Go.Proofs.Ytbpflcilndinfaa.Eng
set_option linter.unusedSimpArgs false
set_option linter.unusedVariables false

/-- A function is there, and is entered. -/
def Enterable (P : Program) (f : FuncId) : Prop := ∃ fn, P.funcs[f]? = some fn ∧ (fn.name == "runtime.NumGoroutine") = false ∧ fn.body.isNone = false
def CallOk (P : Program) (f : FuncId) (args : List AVal) (σ : Store) (v : AVal) (τ : Store) : Prop :=
  Enterable P f ∧ ∀ G w args', Core G σ.get w → News G σ τ.next → ARel G args args' → Calls P f args' w fun e w' => ∃ v' G', e = .returned v' ∧ Moved G σ w G' τ w' ∧ VRel G' v v'
def PureOk (P : Program) (f : FuncId) (args : List AVal) (v : AVal) : Prop :=
  Enterable P f ∧ ∀ G g w args', Core G g w → ARel G args args' → Calls P f args' w fun e w' => ∃ v' G', e = .returned v' ∧ Core G' g w' ∧ Ext G g w G' g w' ∧ (∀ m, Same G G' (fun _ => none) m) ∧ VRel G' v v'

inductive InfOk (P : Program) : Inf → Prop
  | skip (f : Inf) : xwanted f.x.guard f.tm = false → f.v = aundef → f.τ = ⟨[], f.σ.next⟩ → f.tch = [] → f.wr = [] → InfOk P f
  | val (f : Inf) : xwanted f.x.guard f.tm = true → xop f.x.op f.tm (f.σ.only f.tch) = some (.val f.v f.τ) → (∀ n, n ∈ f.tch → n ∉ f.wr → f.τ.get n = f.σ.get n) → (∀ n, n ∈ f.wr ↔ (n ∈ f.tch ∧ n ∈ f.wr) ∨ (f.σ.next ≤ n ∧ n < f.τ.next)) → InfOk P f
  | pure (f : Inf) (k : FuncId) (args : List AVal) (t : List Nat) : xwanted f.x.guard f.tm = true → xop f.x.op f.tm (f.σ.only t) = some (.enter k args) → PureOk P k args f.v → f.τ = ⟨[], f.σ.next⟩ → f.tch = [] → f.wr = [] → InfOk P f
  | call (f : Inf) (k : FuncId) (args : List AVal) (t : List Nat) : xwanted f.x.guard f.tm = true → xop f.x.op f.tm (f.σ.only t) = some (.enter k args) → CallOk P k args (f.σ.only f.tch) f.v f.τ → f.wr = f.tch ++ upTo f.σ.next f.τ.next → InfOk P f

theorem enter_store {o : XOp} {tm : List AVal} {σ σ' : Store} {k : FuncId} {args : List AVal} (h : xop o tm σ = some (.enter k args)) : xop o tm σ' = some (.enter k args) := by
  cases o <;> simp only [xop] at h ⊢ <;> first
    | exact h
    | (exfalso; obtain ⟨_, _, h2⟩ := map_some h; cases h2; done)
    | (exfalso; repeat' (first | (cases h; done) | split at h))

theorem over_nil (g t : Mem) : over g t [] = g := by funext n; simp [over]

theorem inf_does {P : Program} {nofz : List FuncId} {ops : Array Oper} {i : Nat} {o : Oper} {pre : List Nat} {f : Inf} (ho : ops[i]? = some o) (hx : xoper P nofz ops o pre = some f.x) (hf : InfOk P f)
    {G : Ghost} {g : Mem} {w : World} {a : Act} {tm' : List AVal} (c : Core G g w) (hr : ARel G tm' a.tmps) (hl : ∀ t, t ∈ f.x.looks → tm'[t]? = f.tm[t]?) (hσ : ∀ n, n ∈ f.tch → g n = f.σ.get n)
    (hnew : ∀ n, f.σ.next ≤ n → n < f.τ.next → Fresh G g n) {K : Act → World → Prop} {Q : Exit → Act → World → Prop}
    (hK : ∀ v' w' G', VRel G' f.v v' → Core G' (over g f.τ.get f.wr) w' → Ext G g w G' (over g f.τ.get f.wr) w' → (∀ n, (n < f.σ.next ∨ f.τ.next ≤ n) → g n = none → Same G G' (over g f.τ.get f.wr) n) → K (a.put o.dst v') w') : wpOp P ops Q i K a w := by
  obtain ⟨hw, hd, hc, _⟩ := wanted_rel hx hr
  have hw' : xwanted f.x.guard tm' = xwanted f.x.guard f.tm := xwanted_congr fun t b hg => hl t (by unfold XOper.looks; rw [hg]; simp)
  have hxop : ∀ σ, xop f.x.op tm' σ = xop f.x.op f.tm σ := fun σ => xop_congr fun t ht => hl t (by unfold XOper.looks; simp [ht])
  rw [hw'] at hw
  unfold wpOp
  simp only [ho]
  have sub : ∀ l, (∀ n, n ∈ l → n ∈ f.tch) → Sub (f.σ.only l).get g := fun l hlt n q hn => by
    have h1 := only_in hn
    rw [hσ n (hlt n h1)]
    exact only_sub _ _ n q hn
  cases hf with
  | skip h1 h2 h3 h4 h5 =>
    rw [hw, h1]
    simp only [Bool.false_eq_true, if_false]
    have e : over g f.τ.get f.wr = g := by rw [h5, over_nil]
    rw [e] at hK
    exact hK undef w G (by rw [h2]; exact undef_rel G) c (.refl _ _ _) (fun n _ hg => ⟨rfl, fun _ => rfl, hg⟩)
  | val h1 h2 h3 h4 =>
    rw [hw, h1]
    simp only [if_true]
    refine .inl ?_
    have cs := c.sub (sub f.tch (fun _ h => h))
    have nw : News G (f.σ.only f.tch) f.τ.next := fun m k1 k2 => by
      have hf := hnew m k1 k2
      refine ⟨hf.ρ, hf.H, ?_⟩
      cases hq : (f.σ.only f.tch).get m with
      | none => rfl
      | some q => have := sub f.tch (fun _ h => h) m q hq; rw [hf.g] at this; cases this
    have hx1 : xop f.x.op tm' (f.σ.only f.tch) = some (.val f.v f.τ) := by rw [hxop]; exact h2
    obtain ⟨v', w', G', e1, e2, e3⟩ := comp_okF (P := P) hc (⟨cs, hr⟩ : At G (f.σ.only f.tch) w tm' a) hx1 nw
    obtain ⟨k1, k2, k3⟩ := frame_moved (wr := f.wr) c (fun n hn => by rw [hσ n hn, only_mem hn]) (fun n q hn => only_in hn) e3 h4 (fun n hn hnw => by rw [h3 n hn hnw, only_mem hn])
    have := hK v' w' G' e2 k1 k2 k3
    unfold Oper.wp
    rcases e1 with e1 | ⟨e1, rfl⟩ <;> rw [e1] <;> exact this
  | pure k args t h1 h2 h3 h4 h5 h6 =>
    rw [hw, h1]
    simp only [if_true]
    refine .inl ?_
    have e : over g f.τ.get f.wr = g := by rw [h6, over_nil]
    rw [e] at hK
    obtain ⟨⟨fn, n1, n2, n3⟩, hcalls⟩ := h3
    have cs := c.sub (sub [] (fun _ h => by cases h))
    have hx1 : xop f.x.op tm' (f.σ.only []) = some (.enter k args) := by rw [hxop]; exact enter_store h2
    obtain ⟨args', e1, e2⟩ := comp_okF (P := P) hc (⟨cs, hr⟩ : At G (f.σ.only []) w tm' a) hx1 (fun m k1 k2 => absurd k1 (Nat.not_le.2 k2))
    unfold Oper.wp
    rw [e2 fn n1 n2 n3]
    refine Calls.mono (hcalls G g w args' c e1) ?_
    rintro e' w' ⟨v', G', rfl, q1, q2, q3, q4⟩
    exact hK v' w' G' q4 q1 q2 (fun n _ hg => ⟨(q3 n).ρ, (q3 n).H, hg⟩)
  | call k args t h1 h2 h3 h4 =>
    rw [hw, h1]
    simp only [if_true]
    refine .inl ?_
    obtain ⟨⟨fn, n1, n2, n3⟩, hcalls⟩ := h3
    have cs := c.sub (sub f.tch (fun _ h => h))
    have nw : News G (f.σ.only f.tch) f.τ.next := fun m k1 k2 => by
      have hf := hnew m k1 k2
      refine ⟨hf.ρ, hf.H, ?_⟩
      cases hq : (f.σ.only f.tch).get m with
      | none => rfl
      | some q => have := sub f.tch (fun _ h => h) m q hq; rw [hf.g] at this; cases this
    have hx1 : xop f.x.op tm' (f.σ.only f.tch) = some (.enter k args) := by rw [hxop]; exact enter_store h2
    obtain ⟨args', e1, e2⟩ := comp_okF (P := P) hc (⟨cs, hr⟩ : At G (f.σ.only f.tch) w tm' a) hx1 (fun m k1 k2 => absurd k1 (Nat.not_le.2 k2))
    unfold Oper.wp
    rw [e2 fn n1 n2 n3]
    refine Calls.mono (hcalls G w args' cs nw e1) ?_
    rintro e' w' ⟨v', G', rfl, q1, q2⟩
    obtain ⟨k1, k2, k3⟩ := frame_moved (wr := f.wr) c (fun n hn => by rw [hσ n hn, only_mem hn]) (fun n q hn => only_in hn) q1
      (fun n => by rw [h4, List.mem_append, upTo_mem]; exact ⟨fun h => h.elim (fun h => .inl ⟨h, .inl h⟩) .inr, fun h => h.elim (fun h => .inl h.1) .inr⟩) (fun n hn hnw => absurd (by rw [h4]; exact List.mem_append_left _ hn) hnw)
    exact hK v' w' G' q2 k1 k2 k3
end Go.Proofs.Ytbpflcilndinfaa.Eng
