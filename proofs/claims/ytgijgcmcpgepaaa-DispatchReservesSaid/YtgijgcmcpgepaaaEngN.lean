/-
  ENGINE, N: regions whose order is drawn: each operation.
-/
import Derived.Test.YtgijgcmcpgepaaaEngM
import Derived.RangeFuncRecord
import Derived.OrdersIn
namespace Go.Proofs.Ytgijgcmcpgepaaa.Eng
set_option linter.unusedSimpArgs false
set_option linter.unusedVariables false

/-- No fence; in a round of a loop over a function, or not. -/
abbrev Fr (ro : Option Nat) : Fence := { Fence.wide with round := ro }
theorem callsIn_fr {P : Program} {f : FuncId} {args : Array Value} {w : World} {R : Ending → World → Prop} (ro : Option Nat) (h : Calls P f args w R) : CallsIn (Fr ro) 0 P f args w R := callsIn_wide.2 h

/-- A function is there, and is entered. -/
def Enterable (P : Program) (f : FuncId) : Prop := ∃ fn, P.funcs[f]? = some fn ∧ (fn.name == "runtime.NumGoroutine") = false ∧ fn.body.isNone = false
def CallOk (P : Program) (cr : Code → XCode → Prop) (f : FuncId) (args : List AVal) (σ : Store) (v : AVal) (τ : Store) : Prop :=
  Enterable P f ∧ ∀ G w args', G.cr = cr → Core G σ.get w → News G σ τ.next → ARel G args args' → Calls P f args' w fun e w' => ∃ v' G', e = .returned v' ∧ Moved G σ w G' τ w' ∧ VRel G' v v'
def RoundOk (P : Program) (cr : Code → XCode → Prop) (m : Nat) (args : List AVal) (σ : Store) (v : AVal) (τ : Store) : Prop :=
  ∀ G w args' l, G.cr = cr → Core G σ.get w → News G σ τ.next → ARel G args args' → G.ρ m = some l → ∃ fn tmps a b, (Instr.yield l args').run P w = .ok (.round l fn tmps a b) w ∧
    RoundIn Fence.wide 0 P l fn tmps a b w fun e w' => ∃ v' G', e = .returned v' ∧ Moved G σ w G' τ w' ∧ VRel G' v v'
def PureOk (P : Program) (f : FuncId) (args : List AVal) (v : AVal) : Prop :=
  Enterable P f ∧ ∀ G g w args', Core G g w → ARel G args args' → Calls P f args' w fun e w' => ∃ v' G', e = .returned v' ∧ Core G' g w' ∧ Ext G g w G' g w' ∧ (∀ m, Same G G' (fun _ => none) m) ∧ VRel G' v v'

inductive InfOk (P : Program) (cr : Code → XCode → Prop) : Inf → Prop
  | skip (f : Inf) : xwanted f.x.guard f.tm = false → f.v = aundef → f.τ = ⟨[], f.σ.next⟩ → f.tch = [] → f.wr = [] → InfOk P cr f
  | val (f : Inf) : xwanted f.x.guard f.tm = true → xop f.x.op f.tm (f.σ.only f.tch) = some (.val f.v f.τ) → (∀ n, n ∈ f.tch → n ∉ f.wr → f.τ.get n = f.σ.get n) → (∀ n, n ∈ f.wr ↔ (n ∈ f.tch ∧ n ∈ f.wr) ∨ (f.σ.next ≤ n ∧ n < f.τ.next)) → InfOk P cr f
  | pure (f : Inf) (k : FuncId) (args : List AVal) (t : List Nat) : xwanted f.x.guard f.tm = true → xop f.x.op f.tm (f.σ.only t) = some (.enter k args) → PureOk P k args f.v → f.τ = ⟨[], f.σ.next⟩ → f.tch = [] → f.wr = [] → InfOk P cr f
  | call (f : Inf) (k : FuncId) (args : List AVal) (t : List Nat) : xwanted f.x.guard f.tm = true → (xop f.x.op f.tm (f.σ.only t) = some (.enter k args) ∨ xop f.x.op f.tm (f.σ.only t) = some (.enterK k args)) → CallOk P cr k args (f.σ.only f.tch) f.v f.τ → f.wr = f.tch ++ upTo f.σ.next f.τ.next → InfOk P cr f
  | round (f : Inf) (m : Nat) (args : List AVal) (t : List Nat) : xwanted f.x.guard f.tm = true → xop f.x.op f.tm (f.σ.only t) = some (.round m args) → RoundOk P cr m args (f.σ.only f.tch) f.v f.τ → f.wr = f.tch ++ upTo f.σ.next f.τ.next → InfOk P cr f

theorem enter_store {o : XOp} {tm : List AVal} {σ σ' : Store} {k : FuncId} {args : List AVal} (h : xop o tm σ = some (.enter k args)) : xop o tm σ' = some (.enter k args) := by
  cases o <;> simp only [xop] at h ⊢ <;> first
    | exact h
    | (exfalso; obtain ⟨_, _, h2⟩ := map_some h; cases h2; done)
    | (exfalso; repeat' (first | (cases h; done) | split at h))
theorem enterK_store {o : XOp} {tm : List AVal} {σ σ' : Store} {k : FuncId} {args : List AVal} (h : xop o tm σ = some (.enterK k args)) : xop o tm σ' = some (.enterK k args) := by
  cases o <;> simp only [xop] at h ⊢ <;> first
    | exact h
    | (exfalso; obtain ⟨_, _, h2⟩ := map_some h; cases h2; done)
    | (exfalso; repeat' (first | (cases h; done) | split at h))
theorem round_store {o : XOp} {tm : List AVal} {σ σ' : Store} {m : Nat} {args : List AVal} (h : xop o tm σ = some (.round m args)) : xop o tm σ' = some (.round m args) := by
  cases o <;> simp only [xop] at h ⊢ <;> first
    | exact h
    | (exfalso; obtain ⟨_, _, h2⟩ := map_some h; cases h2; done)
    | (exfalso; repeat' (first | (cases h; done) | split at h))

theorem comp_nodefer {P : Program} {nofz : List FuncId} {ops : Array Oper} {o : Oper} {x : XOp} (hc : xcompF P nofz ops o = some x) : ∀ c, o.op ≠ .defer c := by
  intro c e
  unfold xcompF xcomp at hc
  rw [e] at hc
  cases hc

section
variable {P : Program} {ro : Option Nat} {o : Oper} {a : Act} {w w' : World} {next : Act → World → Prop} {Q : Exit → Act → World → Prop}
theorem op_value {v : Value} (hd : ∀ c, o.op ≠ .defer c) (h : (execOp a.eval o).run P w = .ok (.value v) w') (k : next (a.put o.dst v) w') : o.wpIn (Fr ro) 0 P a w next Q :=
  ⟨fun _ _ => trivial, by rw [Oper.semAt_eq _ _ _ hd, h]; exact k⟩
theorem op_skip (hd : ∀ c, o.op ≠ .defer c) (h : (execOp a.eval o).run P w = .ok .skip w') (k : next (a.put o.dst undef) w') : o.wpIn (Fr ro) 0 P a w next Q :=
  ⟨fun _ _ => trivial, by rw [Oper.semAt_eq _ _ _ hd, h]; exact k⟩
theorem op_enter {f : FuncId} {args : Array Value} (hd : ∀ c, o.op ≠ .defer c) (h : (execOp a.eval o).run P w = .ok (.enter f args) w') (k : Calls P f args w' fun e w'' => ∃ v, e = .returned v ∧ next (a.put o.dst v) w'') : o.wpIn (Fr ro) 0 P a w next Q := by
  refine ⟨fun _ _ => trivial, ?_⟩
  rw [Oper.semAt_eq _ _ _ hd, h, Oper.uponIn_enter]
  refine ⟨fun h => by simp [Fr, Fence.wide] at h, callsIn_fr ro (Calls.mono k ?_)⟩
  rintro e w'' ⟨v, rfl, hn⟩
  exact hn
theorem op_round {l : Nat} {f : FuncId} {tmps : Array Value} {x y : Code} (hd : ∀ c, o.op ≠ .defer c) (h : (execOp a.eval o).run P w = .ok (.round l f tmps x y) w') (k : RoundIn Fence.wide 0 P l f tmps x y w' fun e w'' => ∃ v, e = .returned v ∧ next (a.put o.dst v) w'') : o.wpIn (Fr ro) 0 P a w next Q := by
  refine ⟨fun _ _ => trivial, ?_⟩
  rw [Oper.semAt_eq _ _ _ hd, h, Oper.uponIn_round]
  refine ⟨fun h => by simp [Fr, Fence.wide] at h, ?_⟩
  refine RoundIn.mono (F := Fr ro) k ?_
  rintro e w'' ⟨v, rfl, hn⟩
  exact hn
end

theorem over_nil (g t : Mem) : over g t [] = g := by funext n; simp [over]

theorem inf_does {P : Program} {nofz : List FuncId} {ops : Array Oper} {i : Nat} {o : Oper} {pre : List Nat} {f : Inf} (ho : ops[i]? = some o) (hx : xoper P nofz ops o pre = some f.x) {cr : Code → XCode → Prop} (hf : InfOk P cr f)
    (ro : Option Nat) {G : Ghost} (hG : G.cr = cr) {g : Mem} {w : World} {a : Act} {tm' : List AVal} (c : Core G g w) (hr : ARel G tm' a.tmps) (hl : ∀ t, t ∈ f.x.looks → tm'[t]? = f.tm[t]?) (hσ : ∀ n, n ∈ f.tch → g n = f.σ.get n)
    (hnew : ∀ n, f.σ.next ≤ n → n < f.τ.next → Fresh G g n) {K : Act → World → Prop} {Q : Exit → Act → World → Prop}
    (hK : ∀ v' w' G', VRel G' f.v v' → Core G' (over g f.τ.get f.wr) w' → Ext G g w G' (over g f.τ.get f.wr) w' → (∀ n, (n < f.σ.next ∨ f.τ.next ≤ n) → g n = none → Same G G' (over g f.τ.get f.wr) n) → K (a.put o.dst v') w') : wpOpIn (Fr ro) 0 P ops Q i K a w := by
  obtain ⟨hw, hd, hc, _⟩ := wanted_rel hx hr
  have hw' : xwanted f.x.guard tm' = xwanted f.x.guard f.tm := xwanted_congr fun t b hg => hl t (by unfold XOper.looks; rw [hg]; simp)
  have hxop : ∀ σ, xop f.x.op tm' σ = xop f.x.op f.tm σ := fun σ => xop_congr fun t ht => hl t (by unfold XOper.looks; simp [ht])
  rw [hw'] at hw
  have hnd := comp_nodefer hc
  unfold wpOpIn
  simp only [ho]
  have sub : ∀ l, (∀ n, n ∈ l → n ∈ f.tch) → Sub (f.σ.only l).get g := fun l hlt n q hn => by
    have h1 := only_in hn
    rw [hσ n (hlt n h1)]
    exact only_sub _ _ n q hn
  cases hf with
  | skip h1 h2 h3 h4 h5 =>
    rw [hw, h1]
    simp only [Bool.false_eq_true, if_false]
    have e : over g f.τ.get f.wr = g := by rw [h5, over_nil]
    rw [e] at hK
    refine ⟨fun _ _ => trivial, ?_⟩
    exact hK undef w G (by rw [h2]; exact undef_rel G) c (.refl _ _ _) (fun n _ hg => ⟨rfl, fun _ => rfl, hg⟩)
  | val h1 h2 h3 h4 =>
    rw [hw, h1]
    simp only [if_true]
    have cs := c.sub (sub f.tch (fun _ h => h))
    have nw : News G (f.σ.only f.tch) f.τ.next := fun m k1 k2 => by
      have hf := hnew m k1 k2
      refine ⟨hf.ρ, hf.H, ?_⟩
      cases hq : (f.σ.only f.tch).get m with
      | none => rfl
      | some q => have := sub f.tch (fun _ h => h) m q hq; rw [hf.g] at this; cases this
    have hx1 : xop f.x.op tm' (f.σ.only f.tch) = some (.val f.v f.τ) := by rw [hxop]; exact h2
    obtain ⟨v', w', G', e1, e2, e3⟩ := comp_okF (P := P) hc (⟨cs, hr⟩ : At G (f.σ.only f.tch) w tm' a) hx1 nw
    obtain ⟨k1, k2, k3⟩ := frame_moved (wr := f.wr) c (fun n hn => by rw [hσ n hn, only_mem hn]) (fun n q hn => only_in hn) e3 h4 (fun n hn hnw => by rw [h3 n hn hnw, only_mem hn])
    have := hK v' w' G' e2 k1 k2 k3
    rcases e1 with e1 | ⟨e1, rfl⟩
    · exact op_value hnd e1 this
    · exact op_skip hnd e1 this
  | pure k args t h1 h2 h3 h4 h5 h6 =>
    rw [hw, h1]
    simp only [if_true]
    have e : over g f.τ.get f.wr = g := by rw [h6, over_nil]
    rw [e] at hK
    obtain ⟨⟨fn, n1, n2, n3⟩, hcalls⟩ := h3
    have cs := c.sub (sub [] (fun _ h => by cases h))
    have hx1 : xop f.x.op tm' (f.σ.only []) = some (.enter k args) := by rw [hxop]; exact enter_store h2
    obtain ⟨args', e1, e2⟩ := comp_okF (P := P) hc (⟨cs, hr⟩ : At G (f.σ.only []) w tm' a) hx1 (fun m k1 k2 => absurd k1 (Nat.not_le.2 k2))
    refine op_enter hnd (e2 fn n1 n2 n3) (Calls.mono (hcalls G g w args' c e1) ?_)
    rintro e' w' ⟨v', G', rfl, q1, q2, q3, q4⟩
    refine ⟨v', rfl, ?_⟩
    exact hK v' w' G' q4 q1 q2 (fun n _ hg => ⟨(q3 n).ρ, (q3 n).H, hg⟩)
  | call k args t h1 h2 h3 h4 =>
    rw [hw, h1]
    simp only [if_true]
    obtain ⟨⟨fn, n1, n2, n3⟩, hcalls⟩ := h3
    have cs := c.sub (sub f.tch (fun _ h => h))
    have nw : News G (f.σ.only f.tch) f.τ.next := fun m k1 k2 => by
      have hf := hnew m k1 k2
      refine ⟨hf.ρ, hf.H, ?_⟩
      cases hq : (f.σ.only f.tch).get m with
      | none => rfl
      | some q => have := sub f.tch (fun _ h => h) m q hq; rw [hf.g] at this; cases this
    have ent : ∃ args', ARel G args args' ∧ (execOp a.eval o).run P w = .ok (.enter k args') w := by
      rcases h2 with h2 | h2
      · have hx1 : xop f.x.op tm' (f.σ.only f.tch) = some (.enter k args) := by rw [hxop]; exact enter_store h2
        obtain ⟨args', e1, e2⟩ := comp_okF (P := P) hc (⟨cs, hr⟩ : At G (f.σ.only f.tch) w tm' a) hx1 (fun m k1 k2 => absurd k1 (Nat.not_le.2 k2))
        exact ⟨args', e1, e2 fn n1 n2 n3⟩
      · have hx1 : xop f.x.op tm' (f.σ.only f.tch) = some (.enterK k args) := by rw [hxop]; exact enterK_store h2
        obtain ⟨args', e1, e2⟩ := comp_okF (P := P) hc (⟨cs, hr⟩ : At G (f.σ.only f.tch) w tm' a) hx1 (fun m k1 k2 => absurd k1 (Nat.not_le.2 k2))
        exact ⟨args', e1, e2 fn n1 n2 n3⟩
    obtain ⟨args', e1, e2⟩ := ent
    refine op_enter hnd e2 (Calls.mono (hcalls G w args' hG cs nw e1) ?_)
    rintro e' w' ⟨v', G', rfl, q1, q2⟩
    obtain ⟨k1, k2, k3⟩ := frame_moved (wr := f.wr) c (fun n hn => by rw [hσ n hn, only_mem hn]) (fun n q hn => only_in hn) q1
      (fun n => by rw [h4, List.mem_append, upTo_mem]; exact ⟨fun h => h.elim (fun h => .inl ⟨h, .inl h⟩) .inr, fun h => h.elim (fun h => .inl h.1) .inr⟩) (fun n hn hnw => absurd (by rw [h4]; exact List.mem_append_left _ hn) hnw)
    exact ⟨v', rfl, hK v' w' G' q2 k1 k2 k3⟩
  | round m args t h1 h2 h3 h4 =>
    rw [hw, h1]
    simp only [if_true]
    have cs := c.sub (sub f.tch (fun _ h => h))
    have nw : News G (f.σ.only f.tch) f.τ.next := fun m k1 k2 => by
      have hf := hnew m k1 k2
      refine ⟨hf.ρ, hf.H, ?_⟩
      cases hq : (f.σ.only f.tch).get m with
      | none => rfl
      | some q => have := sub f.tch (fun _ h => h) m q hq; rw [hf.g] at this; cases this
    have hx1 : xop f.x.op tm' (f.σ.only f.tch) = some (.round m args) := by rw [hxop]; exact round_store h2
    obtain ⟨args', l, e1, e2, e3⟩ := comp_okF (P := P) hc (⟨cs, hr⟩ : At G (f.σ.only f.tch) w tm' a) hx1 (fun m k1 k2 => absurd k1 (Nat.not_le.2 k2))
    obtain ⟨fn, tmps, x, y, e4, e5⟩ := h3 G w args' l hG cs nw e1 e2
    refine op_round hnd (e3.trans e4) (RoundIn.mono e5 ?_)
    rintro e' w' ⟨v', G', rfl, q1, q2⟩
    obtain ⟨k1, k2, k3⟩ := frame_moved (wr := f.wr) c (fun n hn => by rw [hσ n hn, only_mem hn]) (fun n q hn => only_in hn) q1
      (fun n => by rw [h4, List.mem_append, upTo_mem]; exact ⟨fun h => h.elim (fun h => .inl ⟨h, .inl h⟩) .inr, fun h => h.elim (fun h => .inl h.1) .inr⟩) (fun n hn hnw => absurd (by rw [h4]; exact List.mem_append_left _ hn) hnw)
    exact ⟨v', rfl, hK v' w' G' q2 k1 k2 k3⟩
end Go.Proofs.Ytgijgcmcpgepaaa.Eng
