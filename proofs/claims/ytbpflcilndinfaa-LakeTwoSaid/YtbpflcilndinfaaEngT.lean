/-
  ENGINE, T: what a run means: the theorem.
-/
import Derived.Test.YtbpflcilndinfaaEngS
namespace Go.Proofs.Ytbpflcilndinfaa.Eng
set_option linter.unusedSimpArgs false
set_option linter.unusedVariables false
section
variable {P : Program} {nofz : List FuncId} {X : FuncId → Option XFunc}

theorem put_rel {G : Ghost} {tm : List AVal} {a : Act} (h : ARel G tm a.tmps) {v : AVal} {u : Value} (hv : VRel G v u) (d : Option Nat) : ARel G (putT tm d v) (a.put d u).tmps := by
  cases d with
  | none => exact h
  | some d => exact h.set hv d
theorem put_defers (a : Act) (d : Option Nat) (u : Value) : (a.put d u).defers = a.defers := by cases d <;> rfl

theorem step_next {n : Nat} (ih : AllOk P nofz X n) (job : Job) (tm : List AVal) (σ : Store) (ex : XExit) (tm' : List AVal) (τ : Store) (h : run X (n + 1) job tm σ = some (ex, tm', τ)) : σ.next ≤ τ.next := by
  have seq : ∀ {j1 : Job} {tm1 σ1 ex1 tm2 σ2} {F : List AVal → Store → Option (XExit × List AVal × Store)}, run X n j1 tm1 σ1 = some (ex1, tm2, σ2) → σ1.next ≤ σ2.next := fun h => ih.next _ _ _ _ _ _ h
  cases job with
  | code c =>
    cases c with
    | skip => simp only [run] at h; cases h; exact Nat.le_refl _
    | exit id => simp only [run] at h; cases h; exact Nat.le_refl _
    | ret => simp only [run] at h; cases h; exact Nat.le_refl _
    | reg l => simp only [run] at h; exact ih.next _ _ _ _ _ _ h
    | dreg l =>
      simp only [run] at h
      have := ih.next _ _ _ _ _ _ h
      rwa [xcaps_next] at this
    | cond c a b =>
      simp only [run] at h
      split at h <;> first | exact ih.next _ _ _ _ _ _ h | cases h
    | seq a b =>
      simp only [run] at h
      cases hr : run X n (.code a) tm σ with
      | none => rw [hr] at h; cases h
      | some r =>
        obtain ⟨e1, t1, s1⟩ := r
        rw [hr] at h
        have h1 := ih.next _ _ _ _ _ _ hr
        cases e1 with
        | normal => exact Nat.le_trans h1 (ih.next _ _ _ _ _ _ h)
        | exit id => cases h; exact h1
        | ret => cases h; exact h1
    | loop c =>
      simp only [run] at h
      cases hr : run X n (.code c) tm σ with
      | none => rw [hr] at h; cases h
      | some r =>
        obtain ⟨e1, t1, s1⟩ := r
        rw [hr] at h
        have h1 := ih.next _ _ _ _ _ _ hr
        cases e1 with
        | normal => exact Nat.le_trans h1 (ih.next _ _ _ _ _ _ h)
        | exit id => cases h; exact h1
        | ret => cases h; exact h1
    | block id c =>
      simp only [run] at h
      cases hr : run X n (.code c) tm σ with
      | none => rw [hr] at h; cases h
      | some r =>
        obtain ⟨e1, t1, s1⟩ := r
        rw [hr] at h
        have h1 := ih.next _ _ _ _ _ _ hr
        cases e1 with
        | normal => cases h; exact h1
        | exit id' =>
          simp only at h
          split at h <;> (cases h; exact h1)
        | ret => cases h; exact h1
  | ops l =>
    cases l with
    | nil => simp only [run] at h; cases h; exact Nat.le_refl _
    | cons o l =>
      simp only [run] at h
      split at h
      · split at h <;> try (cases h; done)
        · rename_i v σ1 hx
          exact Nat.le_trans (xop_next hx) (ih.next _ _ _ _ _ _ h)
        · rename_i f args hx
          split at h <;> try (cases h; done)
          rename_i e1 v σ1 hr
          exact Nat.le_trans (ih.next _ _ _ _ _ _ hr) (ih.next _ _ _ _ _ _ h)
      · exact ih.next _ _ _ _ _ _ h
  | dops l recs =>
    cases l with
    | nil => simp only [run] at h; cases h; exact Nat.le_refl _
    | cons o l =>
      simp only [run] at h
      split at h
      · split at h <;> try (cases h; done)
        · rename_i v τ1 hx
          split at h <;> try (cases h; done)
          have h1 := xop_next hx
          have h2 := ih.next _ _ _ _ _ _ h
          exact Nat.le_trans h1 h2
        · rename_i f args hx
          split at h
          · split at h <;> try (cases h; done)
            exact ih.next _ _ _ _ _ _ h
          · split at h <;> try (cases h; done)
            rename_i e1 v τ1 hr
            split at h <;> try (cases h; done)
            have h1 := ih.next _ _ _ _ _ _ hr
            have h2 := ih.next _ _ _ _ _ _ h
            exact Nat.le_trans h1 h2
      · exact ih.next _ _ _ _ _ _ h
  | call f =>
    simp only [run] at h
    split at h <;> try (cases h; done)
    rename_i xf hxf
    split at h
    · split at h <;> try (cases h; done)
      split at h <;> try (cases h; done)
      split at h <;> try (cases h; done)
      cases h; exact Nat.le_refl _
    · split at h <;> try (cases h; done)
      rename_i e1 t1 τ1 hne hr
      split at h <;> try (cases h; done)
      cases h
      have := ih.next _ _ _ _ _ _ hr
      exact this

theorem step_ops {n : Nat} (ih : AllOk P nofz X n) (ops : Array Oper) (l : List Nat) (xl : List XOper) (tm : List AVal) (σ : Store) (ex : XExit) (tm' : List AVal) (τ : Store) (hf : OpsFit P nofz ops l xl) (h : run X (n + 1) (.ops xl) tm σ = some (ex, tm', τ)) : ex = .normal ∧ OpsOk P ops l tm σ tm' τ := by
  cases hf with
  | nil =>
    simp only [run] at h; cases h
    exact ⟨rfl, fun G w a core news rel hd Q hQ => hQ G a w (.refl core) rel hd⟩
  | cons ho hx hfit =>
    rename_i i o x pre l xl
    simp only [run] at h
    split at h
    · rename_i hw
      split at h <;> try (cases h; done)
      · rename_i v σ1 hxo
        obtain ⟨rfl, hok⟩ := ih.ops _ _ _ _ _ _ _ _ hfit h
        have hn := ih.next _ _ _ _ _ _ h
        refine ⟨rfl, fun G w a core news rel hd Q hQ => ?_⟩
        obtain ⟨w1, w2, w3, _⟩ := wanted_rel hx rel
        simp only [wpOps, ho]
        rw [if_pos (by rw [w1]; exact hw)]
        refine .inl ?_
        obtain ⟨v', w', G', e1, e2, e3⟩ := comp_okF (P := P) w3 (⟨core, rel⟩ : At G σ w tm a) hxo (news_le news hn)
        have next : wpOps P ops Q l (a.put o.dst v') w' := by
          refine hok G' w' (a.put o.dst v') e3.core (news_moved news e3) (by rw [w2]; exact put_rel (rel.mono e3.ext.le) e2 o.dst) (by rw [put_defers]; exact hd) Q ?_
          intro G2 a2 w2' m2 r2 d2
          exact hQ G2 a2 w2' (e3.trans m2) r2 d2
        unfold Oper.wp
        rcases e1 with e1 | ⟨e1, rfl⟩ <;> rw [e1] <;> exact next
      · rename_i f args hxo
        split at h <;> try (cases h; done)
        rename_i e1 v σ1 hr
        obtain ⟨rfl, hok⟩ := ih.ops _ _ _ _ _ _ _ _ hfit h
        have hn := ih.next _ _ _ _ _ _ h
        obtain ⟨⟨fn, n1, n2, n3⟩, hcall⟩ := ih.call _ _ _ _ _ _ hr
        refine ⟨rfl, fun G w a core news rel hd Q hQ => ?_⟩
        obtain ⟨w1, w2, w3, _⟩ := wanted_rel hx rel
        simp only [wpOps, ho]
        rw [if_pos (by rw [w1]; exact hw)]
        refine .inl ?_
        obtain ⟨args', e1, e2⟩ := comp_okF (P := P) w3 (⟨core, rel⟩ : At G σ w tm a) hxo (fun m k1 k2 => absurd k1 (Nat.not_le.2 k2))
        unfold Oper.wp
        rw [e2 fn n1 n2 n3]
        refine Calls.mono (hcall G w args' core (news_le news hn) e1) ?_
        rintro e' w' ⟨v', G', rfl, m1, hv⟩
        refine hok G' w' (a.put o.dst v') m1.core (news_moved news m1) (by rw [w2]; exact put_rel (rel.mono m1.ext.le) hv o.dst) (by rw [put_defers]; exact hd) Q ?_
        intro G2 a2 w2' m2 r2 d2
        exact hQ G2 a2 w2' (m1.trans m2) r2 d2
    · rename_i hw
      obtain ⟨rfl, hok⟩ := ih.ops _ _ _ _ _ _ _ _ hfit h
      refine ⟨rfl, fun G w a core news rel hd Q hQ => ?_⟩
      obtain ⟨w1, w2, w3, _⟩ := wanted_rel hx rel
      simp only [wpOps, ho]
      rw [if_neg (by rw [w1]; exact hw)]
      exact hok G w (a.put o.dst undef) core news (by rw [w2]; exact put_rel rel (undef_rel G) o.dst) (by rw [put_defers]; exact hd) Q hQ

theorem touch_call {o : XOp} {tm : List AVal} {σ : Store} {k : FuncId} {args : List AVal} (h : xop o tm σ = some (.enter k args)) : True := trivial

theorem step_dops {n : Nat} (ih : AllOk P nofz X n) (l : List XOper) (recs : List (List Nat × List Nat)) (tm : List AVal) (σ : Store) (ex : XExit) (tm' : List AVal) (τ : Store) (h : run X (n + 1) (.dops l recs) tm σ = some (ex, tm', τ)) : ex = .normal ∧ ∃ fs, Chain P l recs tm σ fs tm' τ := by
  cases l with
  | nil => simp only [run] at h; cases h; exact ⟨rfl, [], .nil _ _ _⟩
  | cons o l =>
    simp only [run] at h
    split at h
    · rename_i hw
      split at h <;> try (cases h; done)
      · rename_i v τ1 hx
        split at h <;> try (cases h; done)
        rename_i hok
        obtain ⟨rfl, fs, hch⟩ := ih.dops _ _ _ _ _ _ _ h
        refine ⟨rfl, _, .cons l recs fs tm' τ ⟨o, tm, σ, v, τ1, touch o.op tm, wrote o.op σ (touch o.op tm) ++ upTo σ.next τ1.next⟩ ?_ hok (show (σ.only (touch o.op tm)).next ≤ τ1.next from xop_next hx) hch⟩
        refine .val _ hw hx (fun k h1 h2 => ?_) (fun k => ?_)
        · simp only [List.mem_append, not_or] at h2
          exact xop_same hx h1 h2.1
        · simp only [List.mem_append, upTo_mem]
          constructor
          · rintro (h1 | h1)
            · exact .inl ⟨wrote_sub h1, .inl h1⟩
            · exact .inr h1
          · rintro (⟨_, h1⟩ | h1)
            · exact h1
            · exact .inr h1
      · rename_i f args hx
        split at h
        · rename_i hfree
          split at h <;> try (cases h; done)
          rename_i e1 v τ1 hr
          obtain ⟨rfl, fs, hch⟩ := ih.dops _ _ _ _ _ _ _ h
          refine ⟨rfl, _, .cons l recs fs tm' τ ⟨o, tm, σ, v, ⟨[], σ.next⟩, [], []⟩ ?_ (okRec_nil _ _ _) (Nat.le_refl _) (by rw [merge_nil]; exact hch)⟩
          exact .pure _ f args (touch o.op tm) hw hx (ih.pure _ _ _ _ _ _ hfree hr).1 rfl rfl rfl
        · split at h <;> try (cases h; done)
          rename_i e1 v τ1 hr
          split at h <;> try (cases h; done)
          rename_i hok
          obtain ⟨rfl, fs, hch⟩ := ih.dops _ _ _ _ _ _ _ h
          refine ⟨rfl, _, .cons l recs fs tm' τ ⟨o, tm, σ, v, τ1, reach σ 10000 (namesL args) [], reach σ 10000 (namesL args) [] ++ upTo σ.next τ1.next⟩ ?_ hok (show (σ.only (reach σ 10000 (namesL args) [])).next ≤ τ1.next from ih.next _ _ _ _ _ _ hr) hch⟩
          exact .call _ f args (touch o.op tm) hw hx (ih.call _ _ _ _ _ _ hr) rfl
    · rename_i hw
      obtain ⟨rfl, fs, hch⟩ := ih.dops _ _ _ _ _ _ _ h
      refine ⟨rfl, _, .cons l recs fs tm' τ ⟨o, tm, σ, aundef, ⟨[], σ.next⟩, [], []⟩ ?_ (okRec_nil _ _ _) (Nat.le_refl _) (by rw [merge_nil]; exact hch)⟩
      exact .skip _ (by simpa using hw) rfl rfl rfl rfl

/-- The functions that are run are the program's. -/
def Known (P : Program) (nofz : List FuncId) (X : FuncId → Option XFunc) : Prop := ∀ f xf, X f = some xf → ∃ fn, P.funcs[f]? = some fn ∧ xfuncOf P nofz fn = some xf

theorem func_of (hX : Known P nofz X) {f : FuncId} {xf : XFunc} (h : X f = some xf) : ∃ fn c, P.funcs[f]? = some fn ∧ fn.body = some c ∧ (fn.name == "runtime.NumGoroutine") = false ∧ xcodeOf P nofz c = some xf.body ∧ xretsOf P fn.results.toList = some xf.results ∧ xf.ntmps = fn.ntmps := by
  obtain ⟨fn, h1, h2⟩ := hX f xf h
  unfold xfuncOf at h2
  split at h2 <;> try (cases h2; done)
  rename_i c hc
  split at h2 <;> try (cases h2; done)
  rename_i b rs hb hrs
  split at h2 <;> try (cases h2; done)
  rename_i hn
  cases h2
  exact ⟨fn, c, h1, hc, by simpa using hn, hb, hrs, rfl⟩

theorem args_rel {G : Ghost} {args : List AVal} {args' : Array Value} (h : ARel G args args') (n : Nat) : ARel G (args ++ List.replicate (n - args.length) aundef) (args' ++ Array.replicate (n - args'.size) undef) := by
  refine h.append ?_
  rw [h.len]
  refine ⟨by simp, fun i x v h1 h2 => ?_⟩
  have hx : x = aundef := by
    have := List.mem_of_getElem? h1
    exact (List.mem_replicate.1 this).2
  have hv : v = undef := by
    have := Array.mem_of_getElem? h2
    exact (Array.mem_replicate.1 this).2
  rw [hx, hv]; exact undef_rel G

/-- A body's end. -/
theorem body_end {fn : Func} {xf : XFunc} {G : Ghost} {σ : Store} {w : World} {ex : XExit} {tm : List AVal} {τ : Store} {v : AVal} (hrs : xretsOf P fn.results.toList = some xf.results) (hex : ∀ id, ex ≠ .exit id) (hv : xresult tm τ xf.results = some v)
    {R : Ending → World → Prop} (hR : ∀ u G' w', Moved G σ w G' τ w' → VRel G' v u → R (.returned u) w') : ∀ e a' w', Post G σ w ex tm τ e a' w' → bodyPost P fn R e a' w' := by
  rintro e a' w' ⟨he, hd, G', m, r⟩
  obtain ⟨u, k1, k2⟩ := results_rel (P := P) hrs m.core r hv
  cases he with
  | normal => exact ⟨hd, u, k1, hR u G' w' m k2⟩
  | exit id => exact absurd rfl (hex id)
  | ret => exact ⟨hd, u, k1, hR u G' w' m k2⟩

theorem step_pure (hX : Known P nofz X) {n : Nat} (ih : AllOk P nofz X n) (f : FuncId) (args : List AVal) (σ : Store) (ex : XExit) (v : AVal) (τ : Store) (hfree : freeL (stripL args) = true) (h : run X (n + 1) (.call f) args σ = some (ex, [v], τ)) : PureOk P f args v ∧ τ = σ := by
  simp only [run] at h
  split at h <;> try (cases h; done)
  rename_i xf hxf
  rw [if_pos hfree] at h
  obtain ⟨fn, c, k1, k2, k3, k4, k5, k6⟩ := func_of hX hxf
  split at h <;> try (cases h; done)
  rename_i e1 t1 τ1 hne hr
  split at h <;> try (cases h; done)
  rename_i v1 hv1
  split at h <;> try (cases h; done)
  rename_i v2 hv2
  cases h
  refine ⟨⟨⟨fn, k1, k3, by rw [k2]; rfl⟩, fun G g w args' core rel => ?_⟩, rfl⟩
  let Gc : Ghost := ⟨G.imm, fun _ => none, fun _ _ => none⟩
  have rel1 : ARel Gc (stripL args) args' := freeL_rel (G := G) (G' := Gc) (fun h => h) (stripL_rel rel) hfree
  have core1 : Core Gc Store.empty.get w := ⟨core.imm, fun n o h => (by cases h), fun n m b h1 _ => (by rcases h1 with ⟨cs, e, _⟩ | ⟨_, _, _, _, e, _⟩ <;> cases e)⟩
  refine calls_of_wp k1 k2 ?_
  have hwp := ih.code _ _ _ _ _ _ _ k4 hr Gc w { tmps := args' ++ Array.replicate (fn.ntmps - args'.size) undef, defers := [] } core1 (fun m _ _ => ⟨rfl, fun _ => rfl, rfl⟩) (by rw [k6]; exact args_rel rel1 fn.ntmps) rfl
  refine wp_mono hwp (body_end k5 (fun id he => by subst he; exact hne _ rfl) hv1 ?_)
  intro u G1 w' m hu
  let G2 : Ghost := ⟨frozenAll G1 τ1.get w', G.ρ, G.H⟩
  obtain ⟨hv3, _⟩ := sealR_rel m.core hu hv2 G2 rfl
  have noOwn : ∀ b, ¬ ∃ k, Own Gc Store.empty.get k b := fun b ⟨k, hk⟩ => by rcases hk with ⟨cs, e, _⟩ | ⟨_, _, _, _, e, _⟩ <;> cases e
  have keep : ∀ b, b < w.heap.size → w'.heap[b]? = w.heap[b]? ∧ ∀ o, G2.imm b o = G.imm b o := fun b hb => by
    obtain ⟨j1, j2, j3⟩ := m.ext.keep b hb (noOwn b)
    exact ⟨j1, fun o => (frozen_same j3 o).trans (j2 o)⟩
  have le : G.le G2 := ⟨fun {b o x} hx => frozen_imm (m.ext.le.imm hx), id, id⟩
  have hown : ∀ k b, Own G2 g k b ↔ Own G g k b := fun k b => Iff.rfl
  refine ⟨u, G2, rfl, ⟨fun b o x hx => frozen_cell m.core hx, fun k o hk => ?_, fun k k' b h1 h2 => core.inj k k' b h1 h2⟩, ⟨le, m.ext.os, m.ext.tape, m.ext.output, m.ext.size, fun b hb hno => ⟨(keep b hb).1, (keep b hb).2, hno⟩⟩, fun _ => ⟨rfl, fun _ => rfl, rfl⟩, hv3⟩
  exact (core.obj k o hk).keep le (fun _ => rfl) fun b _ hb => keep b hb

theorem step_call (hX : Known P nofz X) {n : Nat} (ih : AllOk P nofz X n) (f : FuncId) (args : List AVal) (σ : Store) (ex : XExit) (v : AVal) (τ : Store) (h : run X (n + 1) (.call f) args σ = some (ex, [v], τ)) : CallOk P f args σ v τ := by
  cases hfree : freeL (stripL args) with
  | true =>
    obtain ⟨⟨hent, hp⟩, rfl⟩ := step_pure hX ih f args σ ex v τ hfree h
    refine ⟨hent, fun G w args' core news rel => Calls.mono (hp G _ w args' core rel) ?_⟩
    rintro e w' ⟨u, G', rfl, c, x, s, hv⟩
    exact ⟨u, G', rfl, ⟨c, x, Nat.le_refl _, fun m _ hg => ⟨(s m).ρ, (s m).H, hg⟩⟩, hv⟩
  | false =>
    simp only [run] at h
    split at h <;> try (cases h; done)
    rename_i xf hxf
    rw [if_neg (by rw [hfree]; simp)] at h
    obtain ⟨fn, c, k1, k2, k3, k4, k5, k6⟩ := func_of hX hxf
    split at h <;> try (cases h; done)
    rename_i e1 t1 τ1 hne hr
    split at h <;> try (cases h; done)
    rename_i v1 hv1
    have hv : v1 = v ∧ gc σ τ1 v1 = τ := by
      have h1 := Option.some.inj h
      simp only [Prod.mk.injEq, List.cons.injEq, and_true] at h1
      exact h1.2
    clear h
    obtain ⟨rfl, rfl⟩ := hv
    refine ⟨⟨fn, k1, k3, by rw [k2]; rfl⟩, fun G w args' core news rel => ?_⟩
    refine calls_of_wp k1 k2 ?_
    have hwp := ih.code _ _ _ _ _ _ _ k4 hr G w { tmps := args' ++ Array.replicate (fn.ntmps - args'.size) undef, defers := [] } core news (by rw [k6]; exact args_rel rel fn.ntmps) rfl
    refine wp_mono hwp (body_end k5 (fun id he => by subst he; exact hne _ rfl) hv1 ?_)
    intro u G1 w' m hu
    have sub : ∀ k q, (gc σ τ1 v1).get k = some q → τ1.get k = some q := fun k q hq => by
      simp only [gc, Store.get] at hq
      rw [look_filter (p := fun n => Nat.blt n σ.next || isIn (reach τ1 10000 (σ.objs.map (·.1) ++ v1.names) []) n)] at hq
      split at hq
      · exact hq
      · cases hq
    refine ⟨u, G1, rfl, ⟨m.core.sub sub, ⟨m.ext.le, m.ext.os, m.ext.tape, m.ext.output, m.ext.size, fun b hb hno => ?_⟩, m.next, fun k hk hg => ?_⟩, hu⟩
    · obtain ⟨j1, j2, j3⟩ := m.ext.keep b hb hno
      exact ⟨j1, j2, fun ⟨k, hk⟩ => j3 ⟨k, hk.sub sub⟩⟩
    · have s := m.other k hk hg
      refine ⟨s.ρ, s.H, ?_⟩
      cases hq : (gc σ τ1 v1).get k with
      | none => rfl
      | some q => have := sub k q hq; rw [s.g] at this; cases this

/-- WHAT A RUN MEANS. -/
theorem all_ok (hm : P.follows .mixedOrders = true) (hX : Known P nofz X) : ∀ n, AllOk P nofz X n
  | 0 => ⟨fun _ _ _ _ _ _ _ _ h => by simp [run] at h, fun _ _ _ _ _ _ _ _ h => by simp [run] at h, fun _ _ _ _ _ _ _ _ _ h => by simp [run] at h, fun _ _ _ _ _ _ _ h => by simp [run] at h, fun _ _ _ _ _ _ h => by simp [run] at h, fun _ _ _ _ _ _ _ h => by simp [run] at h, fun _ _ _ _ _ _ h => by simp [run] at h⟩
  | n + 1 =>
    have ih := all_ok hm hX n
    ⟨step_code hm ih, step_loop' ih, step_ops ih, step_dops ih, step_call hX ih, step_pure hX ih, step_next ih⟩
end

theorem known_xprog (P : Program) (nofz : List FuncId) : Known P nofz (xprog P nofz) := fun f xf h => by
  unfold xprog at h
  cases hf : P.funcs[f]? with
  | none => rw [hf] at h; cases h
  | some fn => rw [hf] at h; exact ⟨fn, rfl, h⟩
end Go.Proofs.Ytbpflcilndinfaa.Eng
