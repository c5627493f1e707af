/-
  ENGINE, T: what a run means: the theorem.
-/
import Derived.Test.YtgijgcmcpgepaaaEngS
namespace Go.Proofs.Ytgijgcmcpgepaaa.Eng
set_option linter.unusedSimpArgs false
set_option linter.unusedVariables false
section
variable {P : Program} {nofz : List FuncId} {X : FuncId → Option XFunc}

theorem put_rel {G : Ghost} {tm : List AVal} {a : Act} (h : ARel G tm a.tmps) {v : AVal} {u : Value} (hv : VRel G v u) (d : Option Nat) : ARel G (putT tm d v) (a.put d u).tmps := by
  cases d with
  | none => exact h
  | some d => exact h.set hv d
theorem put_defers (a : Act) (d : Option Nat) (u : Value) : (a.put d u).defers = a.defers := by cases d <;> rfl

theorem step_next {n : Nat} (ih : AllOk P nofz X n) (job : Job) (tm : List AVal) (σ : Store) (ex : XExit) (tm' : List AVal) (τ : Store) (h : run X (n + 1) job tm σ = some (ex, tm', τ)) : σ.next ≤ τ.next := by
  have seq : ∀ {j1 : Job} {tm1 σ1 ex1 tm2 σ2} {F : List AVal → Store → Option (XExit × List AVal × Store)}, run X n j1 tm1 σ1 = some (ex1, tm2, σ2) → σ1.next ≤ σ2.next := fun h => ih.next _ _ _ _ _ _ h
  cases job with
  | code c =>
    cases c with
    | skip => simp only [run] at h; cases h; exact Nat.le_refl _
    | exit id => simp only [run] at h; cases h; exact Nat.le_refl _
    | ret => simp only [run] at h; cases h; exact Nat.le_refl _
    | reg l => simp only [run] at h; exact ih.next _ _ _ _ _ _ h
    | dreg l =>
      simp only [run] at h
      have := ih.next _ _ _ _ _ _ h
      rwa [xcaps_next] at this
    | cond c a b =>
      simp only [run] at h
      split at h <;> first | exact ih.next _ _ _ _ _ _ h | cases h
    | seq a b =>
      simp only [run] at h
      cases hr : run X n (.code a) tm σ with
      | none => rw [hr] at h; cases h
      | some r =>
        obtain ⟨e1, t1, s1⟩ := r
        rw [hr] at h
        have h1 := ih.next _ _ _ _ _ _ hr
        cases e1 with
        | normal => exact Nat.le_trans h1 (ih.next _ _ _ _ _ _ h)
        | exit id => cases h; exact h1
        | ret => cases h; exact h1
    | loop c =>
      simp only [run] at h
      cases hr : run X n (.code c) tm σ with
      | none => rw [hr] at h; cases h
      | some r =>
        obtain ⟨e1, t1, s1⟩ := r
        rw [hr] at h
        have h1 := ih.next _ _ _ _ _ _ hr
        cases e1 with
        | normal => exact Nat.le_trans h1 (ih.next _ _ _ _ _ _ h)
        | exit id => cases h; exact h1
        | ret => cases h; exact h1
    | block id c =>
      simp only [run] at h
      cases hr : run X n (.code c) tm σ with
      | none => rw [hr] at h; cases h
      | some r =>
        obtain ⟨e1, t1, s1⟩ := r
        rw [hr] at h
        have h1 := ih.next _ _ _ _ _ _ hr
        cases e1 with
        | normal => cases h; exact h1
        | exit id' =>
          simp only at h
          split at h <;> (cases h; exact h1)
        | ret => cases h; exact h1
    | rangeF f ps a b =>
      simp only [run] at h
      split at h <;> try (cases h; done)
      split at h <;> try (cases h; done)
      rename_i e1 v τ1 hr
      split at h <;> try (cases h; done)
      cases h
      have h1 := ih.next _ _ _ _ _ _ hr
      simp only [Store.new] at h1
      exact Nat.le_trans (Nat.le_succ _) h1
    | given g =>
      simp only [run] at h
      split at h <;> try (cases h; done)
      cases h; exact Nat.le_refl _
  | ops l =>
    cases l with
    | nil => simp only [run] at h; cases h; exact Nat.le_refl _
    | cons o l =>
      simp only [run] at h
      split at h
      · split at h <;> try (cases h; done)
        · rename_i v σ1 hx
          exact Nat.le_trans (xop_next hx) (ih.next _ _ _ _ _ _ h)
        · rename_i f args hx
          split at h <;> try (cases h; done)
          rename_i e1 v σ1 hr
          exact Nat.le_trans (ih.next _ _ _ _ _ _ hr) (ih.next _ _ _ _ _ _ h)
        · rename_i m args hx
          split at h <;> try (cases h; done)
          rename_i e1 v σ1 hr
          exact Nat.le_trans (ih.next _ _ _ _ _ _ hr) (ih.next _ _ _ _ _ _ h)
        · rename_i f args hx
          split at h <;> try (cases h; done)
          rename_i e1 v σ1 hr
          exact Nat.le_trans (ih.next _ _ _ _ _ _ hr) (ih.next _ _ _ _ _ _ h)
      · exact ih.next _ _ _ _ _ _ h
  | dops l recs =>
    cases l with
    | nil => simp only [run] at h; cases h; exact Nat.le_refl _
    | cons o l =>
      simp only [run] at h
      split at h
      · split at h <;> try (cases h; done)
        · rename_i v τ1 hx
          split at h <;> try (cases h; done)
          have h1 := xop_next hx
          have h2 := ih.next _ _ _ _ _ _ h
          exact Nat.le_trans h1 h2
        · rename_i f args hx
          split at h
          · split at h <;> try (cases h; done)
            exact ih.next _ _ _ _ _ _ h
          · split at h <;> try (cases h; done)
            rename_i e1 v τ1 hr
            split at h <;> try (cases h; done)
            have h1 := ih.next _ _ _ _ _ _ hr
            have h2 := ih.next _ _ _ _ _ _ h
            exact Nat.le_trans h1 h2
        · rename_i m args hx
          split at h <;> try (cases h; done)
          rename_i e1 v τ1 hr
          split at h <;> try (cases h; done)
          have h1 := ih.next _ _ _ _ _ _ hr
          have h2 := ih.next _ _ _ _ _ _ h
          exact Nat.le_trans h1 h2
        · rename_i f args hx
          split at h <;> try (cases h; done)
          rename_i e1 v τ1 hr
          split at h <;> try (cases h; done)
          have h1 := ih.next _ _ _ _ _ _ hr
          have h2 := ih.next _ _ _ _ _ _ h
          exact Nat.le_trans h1 h2
      · exact ih.next _ _ _ _ _ _ h
  | call f =>
    simp only [run] at h
    split at h <;> try (cases h; done)
    rename_i xf hxf
    split at h
    · split at h <;> try (cases h; done)
      split at h <;> try (cases h; done)
      split at h <;> try (cases h; done)
      cases h; exact Nat.le_refl _
    · split at h <;> try (cases h; done)
      rename_i e1 t1 τ1 hne hr
      split at h <;> try (cases h; done)
      cases h
      have := ih.next _ _ _ _ _ _ hr
      exact this
  | callK f =>
    simp only [run] at h
    split at h <;> try (cases h; done)
    split at h <;> try (cases h; done)
    rename_i e1 t1 τ1 hne hr
    split at h <;> try (cases h; done)
    cases h
    have := ih.next _ _ _ _ _ _ hr
    exact this
  | round m =>
    simp only [run] at h
    split at h <;> try (cases h; done)
    split at h <;> try (cases h; done)
    rename_i tm1 σ1 h1
    split at h <;> try (cases h; done)
    rename_i σ2 hmid
    split at h <;> try (cases h; done)
    rename_i e2 tm3 σ3 h2
    split at h <;> try (cases h; done)
    rename_i σ4 hout
    cases h
    have k1 := ih.next _ _ _ _ _ _ h1
    have k2 := ih.next _ _ _ _ _ _ h2
    have k3 : σ2.next = σ1.next := by
      unfold roundMid at hmid
      split at hmid <;> try (cases hmid; done)
      cases hmid; rfl
    have k4 : τ.next = σ3.next := by
      unfold roundOut at hout
      split at hout <;> try (cases hout; done)
      cases hout; rfl
    omega

theorem step_ops {n : Nat} (ih : AllOk P nofz X n) (ro : Option Nat) (ops : Array Oper) (l : List Nat) (xl : List XOper) (tm : List AVal) (σ : Store) (ex : XExit) (tm' : List AVal) (τ : Store) (hf : OpsFit P nofz ops l xl) (h : run X (n + 1) (.ops xl) tm σ = some (ex, tm', τ)) : ex = .normal ∧ OpsOk ro P (crOf P nofz) ops l tm σ tm' τ := by
  cases hf with
  | nil =>
    simp only [run] at h; cases h
    exact ⟨rfl, fun G w a hG core news rel Q hQ => hQ G a w (.refl core) rel rfl⟩
  | cons ho hx hfit =>
    rename_i i o x pre l xl
    simp only [run] at h
    split at h
    · rename_i hw
      split at h <;> try (cases h; done)
      · rename_i v σ1 hxo
        obtain ⟨rfl, hok⟩ := ih.ops ro _ _ _ _ _ _ _ _ hfit h
        have hn := ih.next _ _ _ _ _ _ h
        refine ⟨rfl, fun G w a hG core news rel Q hQ => ?_⟩
        obtain ⟨w1, w2, w3, _⟩ := wanted_rel hx rel
        have hnd := comp_nodefer w3
        simp only [wpOpsIn, ho]
        rw [if_pos (by rw [w1]; exact hw)]
        obtain ⟨v', w', G', e1, e2, e3⟩ := comp_okF (P := P) w3 (⟨core, rel⟩ : At G σ w tm a) hxo (news_le news hn)
        have next : wpOpsIn (Fr ro) 0 P ops Q l (a.put o.dst v') w' := by
          refine hok G' w' (a.put o.dst v') (e3.ext.le.cr.trans hG) e3.core (news_moved news e3) (by rw [w2]; exact put_rel (rel.mono e3.ext.le) e2 o.dst) Q ?_
          intro G2 a2 w2' m2 r2 d2
          exact hQ G2 a2 w2' (e3.trans m2) r2 (d2.trans (put_defers _ _ _))
        rcases e1 with e1 | ⟨e1, rfl⟩
        · exact op_value hnd e1 next
        · exact op_skip hnd e1 next
      · rename_i f args hxo
        split at h <;> try (cases h; done)
        rename_i e1 v σ1 hr
        obtain ⟨rfl, hok⟩ := ih.ops ro _ _ _ _ _ _ _ _ hfit h
        have hn := ih.next _ _ _ _ _ _ h
        obtain ⟨⟨fn, n1, n2, n3⟩, hcall⟩ := ih.call _ _ _ _ _ _ hr
        refine ⟨rfl, fun G w a hG core news rel Q hQ => ?_⟩
        obtain ⟨w1, w2, w3, _⟩ := wanted_rel hx rel
        have hnd := comp_nodefer w3
        simp only [wpOpsIn, ho]
        rw [if_pos (by rw [w1]; exact hw)]
        obtain ⟨args', e1, e2⟩ := comp_okF (P := P) w3 (⟨core, rel⟩ : At G σ w tm a) hxo (fun m k1 k2 => absurd k1 (Nat.not_le.2 k2))
        refine op_enter hnd (e2 fn n1 n2 n3) (Calls.mono (hcall G w args' hG core (news_le news hn) e1) ?_)
        rintro e' w' ⟨v', G', rfl, m1, hv⟩
        refine ⟨v', rfl, hok G' w' (a.put o.dst v') (m1.ext.le.cr.trans hG) m1.core (news_moved news m1) (by rw [w2]; exact put_rel (rel.mono m1.ext.le) hv o.dst) Q ?_⟩
        intro G2 a2 w2' m2 r2 d2
        exact hQ G2 a2 w2' (m1.trans m2) r2 (d2.trans (put_defers _ _ _))
      · rename_i m args hxo
        split at h <;> try (cases h; done)
        rename_i e1 v σ1 hr
        obtain ⟨rfl, hok⟩ := ih.ops ro _ _ _ _ _ _ _ _ hfit h
        have hn := ih.next _ _ _ _ _ _ h
        have hrd := ih.round _ _ _ _ _ _ hr
        refine ⟨rfl, fun G w a hG core news rel Q hQ => ?_⟩
        obtain ⟨w1, w2, w3, _⟩ := wanted_rel hx rel
        have hnd := comp_nodefer w3
        simp only [wpOpsIn, ho]
        rw [if_pos (by rw [w1]; exact hw)]
        obtain ⟨args', l', e1, e2, e3⟩ := comp_okF (P := P) w3 (⟨core, rel⟩ : At G σ w tm a) hxo (fun m k1 k2 => absurd k1 (Nat.not_le.2 k2))
        obtain ⟨fn, tmps, x', y', e4, e5⟩ := hrd G w args' l' hG core (news_le news hn) e1 e2
        refine op_round hnd (e3.trans e4) (RoundIn.mono e5 ?_)
        rintro e' w' ⟨v', G', rfl, m1, hv⟩
        refine ⟨v', rfl, hok G' w' (a.put o.dst v') (m1.ext.le.cr.trans hG) m1.core (news_moved news m1) (by rw [w2]; exact put_rel (rel.mono m1.ext.le) hv o.dst) Q ?_⟩
        intro G2 a2 w2' m2 r2 d2
        exact hQ G2 a2 w2' (m1.trans m2) r2 (d2.trans (put_defers _ _ _))
      · rename_i f args hxo
        split at h <;> try (cases h; done)
        rename_i e1 v σ1 hr
        obtain ⟨rfl, hok⟩ := ih.ops ro _ _ _ _ _ _ _ _ hfit h
        have hn := ih.next _ _ _ _ _ _ h
        obtain ⟨⟨fn, n1, n2, n3⟩, hcall⟩ := ih.callK _ _ _ _ _ _ hr
        refine ⟨rfl, fun G w a hG core news rel Q hQ => ?_⟩
        obtain ⟨w1, w2, w3, _⟩ := wanted_rel hx rel
        have hnd := comp_nodefer w3
        simp only [wpOpsIn, ho]
        rw [if_pos (by rw [w1]; exact hw)]
        obtain ⟨args', e1, e2⟩ := comp_okF (P := P) w3 (⟨core, rel⟩ : At G σ w tm a) hxo (fun m k1 k2 => absurd k1 (Nat.not_le.2 k2))
        refine op_enter hnd (e2 fn n1 n2 n3) (Calls.mono (hcall G w args' hG core (news_le news hn) e1) ?_)
        rintro e' w' ⟨v', G', rfl, m1, hv⟩
        refine ⟨v', rfl, hok G' w' (a.put o.dst v') (m1.ext.le.cr.trans hG) m1.core (news_moved news m1) (by rw [w2]; exact put_rel (rel.mono m1.ext.le) hv o.dst) Q ?_⟩
        intro G2 a2 w2' m2 r2 d2
        exact hQ G2 a2 w2' (m1.trans m2) r2 (d2.trans (put_defers _ _ _))
    · rename_i hw
      obtain ⟨rfl, hok⟩ := ih.ops ro _ _ _ _ _ _ _ _ hfit h
      refine ⟨rfl, fun G w a hG core news rel Q hQ => ?_⟩
      obtain ⟨w1, w2, w3, _⟩ := wanted_rel hx rel
      simp only [wpOpsIn, ho]
      rw [if_neg (by rw [w1]; exact hw)]
      refine ⟨fun _ _ => trivial, hok G w (a.put o.dst undef) hG core news (by rw [w2]; exact put_rel rel (undef_rel G) o.dst) Q ?_⟩
      intro G2 a2 w2' m2 r2 d2
      exact hQ G2 a2 w2' m2 r2 (d2.trans (put_defers _ _ _))

theorem touch_call {o : XOp} {tm : List AVal} {σ : Store} {k : FuncId} {args : List AVal} (h : xop o tm σ = some (.enter k args)) : True := trivial

theorem step_dops {n : Nat} (ih : AllOk P nofz X n) (l : List XOper) (recs : List (List Nat × List Nat)) (tm : List AVal) (σ : Store) (ex : XExit) (tm' : List AVal) (τ : Store) (h : run X (n + 1) (.dops l recs) tm σ = some (ex, tm', τ)) : ex = .normal ∧ ∃ fs, Chain P (crOf P nofz) l recs tm σ fs tm' τ := by
  cases l with
  | nil => simp only [run] at h; cases h; exact ⟨rfl, [], .nil _ _ _⟩
  | cons o l =>
    simp only [run] at h
    split at h
    · rename_i hw
      split at h <;> try (cases h; done)
      · rename_i v τ1 hx
        split at h <;> try (cases h; done)
        rename_i hok
        obtain ⟨rfl, fs, hch⟩ := ih.dops _ _ _ _ _ _ _ h
        refine ⟨rfl, _, .cons l recs fs tm' τ ⟨o, tm, σ, v, τ1, touch o.op tm σ, wrote o.op σ (touch o.op tm σ) ++ upTo σ.next τ1.next⟩ ?_ hok (show (σ.only (touch o.op tm σ)).next ≤ τ1.next from xop_next hx) hch⟩
        refine .val _ hw hx (fun k h1 h2 => ?_) (fun k => ?_)
        · simp only [List.mem_append, not_or] at h2
          exact xop_same hx h1 h2.1
        · simp only [List.mem_append, upTo_mem]
          constructor
          · rintro (h1 | h1)
            · exact .inl ⟨wrote_sub h1, .inl h1⟩
            · exact .inr h1
          · rintro (⟨_, h1⟩ | h1)
            · exact h1
            · exact .inr h1
      · rename_i f args hx
        split at h
        · rename_i hfree
          split at h <;> try (cases h; done)
          rename_i e1 v τ1 hr
          obtain ⟨rfl, fs, hch⟩ := ih.dops _ _ _ _ _ _ _ h
          refine ⟨rfl, _, .cons l recs fs tm' τ ⟨o, tm, σ, v, ⟨[], σ.next⟩, [], []⟩ ?_ (okRec_nil _ _ _) (Nat.le_refl _) (by rw [merge_nil]; exact hch)⟩
          exact .pure _ f args (touch o.op tm σ) hw hx (ih.pure _ _ _ _ _ _ hfree hr).1 rfl rfl rfl
        · split at h <;> try (cases h; done)
          rename_i e1 v τ1 hr
          split at h <;> try (cases h; done)
          rename_i hok
          obtain ⟨rfl, fs, hch⟩ := ih.dops _ _ _ _ _ _ _ h
          refine ⟨rfl, _, .cons l recs fs tm' τ ⟨o, tm, σ, v, τ1, reach σ 10000 (namesL args) [], reach σ 10000 (namesL args) [] ++ upTo σ.next τ1.next⟩ ?_ hok (show (σ.only (reach σ 10000 (namesL args) [])).next ≤ τ1.next from ih.next _ _ _ _ _ _ hr) hch⟩
          exact .call _ f args (touch o.op tm σ) hw (.inl hx) (ih.call _ _ _ _ _ _ hr) rfl
      · rename_i m args hx
        split at h <;> try (cases h; done)
        rename_i e1 v τ1 hr
        split at h <;> try (cases h; done)
        rename_i hok
        obtain ⟨rfl, fs, hch⟩ := ih.dops _ _ _ _ _ _ _ h
        refine ⟨rfl, _, .cons l recs fs tm' τ ⟨o, tm, σ, v, τ1, reach σ 10000 (m :: namesL args) [], reach σ 10000 (m :: namesL args) [] ++ upTo σ.next τ1.next⟩ ?_ hok (show (σ.only (reach σ 10000 (m :: namesL args) [])).next ≤ τ1.next from ih.next _ _ _ _ _ _ hr) hch⟩
        exact .round _ m args (touch o.op tm σ) hw hx (ih.round _ _ _ _ _ _ hr) rfl
      · rename_i f args hx
        split at h <;> try (cases h; done)
        rename_i e1 v τ1 hr
        split at h <;> try (cases h; done)
        rename_i hok
        obtain ⟨rfl, fs, hch⟩ := ih.dops _ _ _ _ _ _ _ h
        refine ⟨rfl, _, .cons l recs fs tm' τ ⟨o, tm, σ, v, τ1, reach σ 10000 (namesL args) [], reach σ 10000 (namesL args) [] ++ upTo σ.next τ1.next⟩ ?_ hok (show (σ.only (reach σ 10000 (namesL args) [])).next ≤ τ1.next from ih.next _ _ _ _ _ _ hr) hch⟩
        exact .call _ f args (touch o.op tm σ) hw (.inr hx) (ih.callK _ _ _ _ _ _ hr) rfl
    · rename_i hw
      obtain ⟨rfl, fs, hch⟩ := ih.dops _ _ _ _ _ _ _ h
      refine ⟨rfl, _, .cons l recs fs tm' τ ⟨o, tm, σ, aundef, ⟨[], σ.next⟩, [], []⟩ ?_ (okRec_nil _ _ _) (Nat.le_refl _) (by rw [merge_nil]; exact hch)⟩
      exact .skip _ (by simpa using hw) rfl rfl rfl rfl

/-- The functions that are run are the program's, or they are given, and do what is given. -/
def Given (P : Program) (f : FuncId) (xf : XFunc) : Prop := ∃ g, xf.body = .given g ∧ xf.results = [.t 0] ∧ 1 ≤ xf.ntmps ∧ ∀ args v, g (args ++ List.replicate (xf.ntmps - args.length) aundef) = some v → v.free = true ∧ v.strip = v ∧ PureOk P f args v
def Known (P : Program) (nofz : List FuncId) (X : FuncId → Option XFunc) : Prop := ∀ f xf, X f = some xf → (∃ fn, P.funcs[f]? = some fn ∧ xfuncOf P nofz fn = some xf) ∨ Given P f xf

theorem func_of {f : FuncId} {xf : XFunc} (h : ∃ fn, P.funcs[f]? = some fn ∧ xfuncOf P nofz fn = some xf) : ∃ fn c, P.funcs[f]? = some fn ∧ fn.body = some c ∧ (fn.name == "runtime.NumGoroutine") = false ∧ xcodeOf P nofz c = some xf.body ∧ xretsOf P fn.results.toList = some xf.results ∧ xf.ntmps = fn.ntmps := by
  obtain ⟨fn, h1, h2⟩ := h
  unfold xfuncOf at h2
  split at h2 <;> try (cases h2; done)
  rename_i c hc
  split at h2 <;> try (cases h2; done)
  rename_i b rs hb hrs
  split at h2 <;> try (cases h2; done)
  rename_i hn
  cases h2
  exact ⟨fn, c, h1, hc, by simpa using hn, hb, hrs, rfl⟩

theorem args_rel {G : Ghost} {args : List AVal} {args' : Array Value} (h : ARel G args args') (n : Nat) : ARel G (args ++ List.replicate (n - args.length) aundef) (args' ++ Array.replicate (n - args'.size) undef) := by
  refine h.append ?_
  rw [h.len]
  refine ⟨by simp, fun i x v h1 h2 => ?_⟩
  have hx : x = aundef := by
    have := List.mem_of_getElem? h1
    exact (List.mem_replicate.1 this).2
  have hv : v = undef := by
    have := Array.mem_of_getElem? h2
    exact (Array.mem_replicate.1 this).2
  rw [hx, hv]; exact undef_rel G

theorem core_shut {G : Ghost} {g : Mem} {w : World} (h : Core G g w) {D : Nat} {d : Option (List Deferred)} (hD : w.heap[D]? = some (.deferred d)) (d' : Option (List Deferred)) : Core G g (w.putObj D (.deferred d')) := by
  have hfar : ∀ b, b ≠ D → (w.putObj D (.deferred d')).heap[b]? = w.heap[b]? := fun b hb => World.putObj_heap_other hb
  refine ⟨fun b o v hv => ?_, fun n o hn => ?_, h.inj⟩
  · have h1 := h.imm b o v hv
    by_cases e : b = D
    · subst e; simp [World.cell?, hD] at h1
    · rw [cell_congr (hfar b e)]; exact h1
  · have hob := h.obj n o hn
    cases o with
    | cells cs =>
      obtain ⟨b2, c2, t2, k1, k2, k3, k4⟩ := hob
      have hne : b2 ≠ D := by rintro rfl; rw [hD] at k2; cases k2
      exact ⟨b2, c2, t2, k1, (hfar b2 hne).trans k2, k3, k4⟩
    | ro cs => exact hob
    | gone => exact trivial
    | full k len => exact hob
    | tok te s len =>
      rcases hob with ⟨z1, z2⟩ | ⟨b2, cap, c2, k1, k2, k3, k4, k5, k6⟩
      · exact .inl ⟨z1, z2⟩
      have hne : b2 ≠ D := by rintro rfl; rw [hD] at k2; cases k2
      exact .inr ⟨b2, cap, c2, k1, (hfar b2 hne).trans k2, k3, k4, k5, k6⟩
    | oth x =>
      obtain ⟨b2, ob2, k1, k2, k3, k4⟩ := hob
      have hne : b2 ≠ D := by
        rintro rfl
        rw [hD] at k2; cases k2
        cases x with
        | map es => obtain ⟨_, e, _⟩ := k3; cases e
        | iter m since seen =>
          cases m with
          | none => exact absurd (show Obj.deferred d = _ from k3) (by intro e; cases e)
          | some m => obtain ⟨_, e, _⟩ := k3; cases e
        | loop st tm ps a b => obtain ⟨_, e, _⟩ := k3; cases e
      exact ⟨b2, ob2, k1, (hfar b2 hne).trans k2, k3, k4⟩
theorem moved_shut {G G' : Ghost} {σ τ : Store} {w w' : World} (m : Moved G σ w G' τ w') {D : Nat} {d : Option (List Deferred)} (hlt : w.heap.size ≤ D) (hD : w'.heap[D]? = some (.deferred d)) (d' : Option (List Deferred)) : Moved G σ w G' τ (w'.putObj D (.deferred d')) :=
  ⟨core_shut m.core hD d', ⟨m.ext.le, m.ext.os, m.ext.tape, m.ext.output, by rw [World.putObj_size]; exact m.ext.size, (fun b r hb => by
    obtain ⟨r', hr'⟩ := m.ext.loops b r hb
    exact ⟨r', by rw [World.putObj_heap_other (by rintro rfl; rw [hD] at hr'; cases hr')]; exact hr'⟩), fun b hb hno => by
    obtain ⟨j1, j2, j3⟩ := m.ext.keep b hb hno
    exact ⟨by rw [World.putObj_heap_other (by omega)]; exact j1, j2, j3⟩⟩, m.next, m.other⟩

/-- A body's end. -/
theorem body_end {fn : Func} {xf : XFunc} {G : Ghost} {σ : Store} {w : World} {ex : XExit} {tm : List AVal} {τ : Store} {v : AVal} (hrs : xretsOf P fn.results.toList = some xf.results) (hex : ∀ id, ex ≠ .exit id) (hv : xresult tm τ xf.results = some v)
    {R : Ending → World → Prop} (hR : ∀ u G' w', Moved G σ w G' τ w' → VRel G' v u → R (.returned u) w') : ∀ e a' w', Post w.heap.size G σ w ex tm τ e a' w' → bodyPostM (Fr none) 0 P fn R e a' w' := by
  rintro e a' w' ⟨he, ⟨_, Ds, hds, hnd, hall⟩, G', m, r⟩
  have key : ∀ (Ds : List Nat) (w' : World), Moved G σ w G' τ w' → Ds.Nodup → (∀ D, D ∈ Ds → w.heap.size ≤ D ∧ w'.heap[D]? = some (.deferred (some []))) → LeavesInM (Fr none) 0 P fn a'.tmps R (Ds.map markOf) .returning w' := by
    intro Ds
    induction Ds with
    | nil =>
      intro w' m _ _
      obtain ⟨u, k1, k2⟩ := results_rel (P := P) hrs m.core r hv
      exact ⟨u, k1, hR u G' w' m k2⟩
    | cons D Ds ih =>
      intro w' m hn hall
      obtain ⟨hD, hn⟩ := List.nodup_cons.1 hn
      obtain ⟨q1, q2⟩ := hall D (List.mem_cons_self ..)
      refine ⟨by simp, .inl ⟨D, _, rfl, run_takeDeferred q2, ih _ (moved_shut m q1 q2 none) hn fun D' hD' => ?_⟩⟩
      obtain ⟨p1, p2⟩ := hall D' (List.mem_cons_of_mem _ hD')
      exact ⟨p1, by rw [World.putObj_heap_other (by rintro rfl; exact hD hD')]; exact p2⟩
  have := key Ds w' m hnd hall
  rw [← hds] at this
  cases he with
  | normal => exact this
  | exit id => exact absurd rfl (hex id)
  | ret => exact this

theorem step_pure (hX : Known P nofz X) {n : Nat} (ih : AllOk P nofz X n) (f : FuncId) (args : List AVal) (σ : Store) (ex : XExit) (v : AVal) (τ : Store) (hfree : freeL (stripL args) = true) (h : run X (n + 1) (.call f) args σ = some (ex, [v], τ)) : PureOk P f args v ∧ τ = σ := by
  simp only [run] at h
  split at h <;> try (cases h; done)
  rename_i xf hxf
  rw [if_pos hfree] at h
  split at h <;> try (cases h; done)
  rename_i e1 t1 τ1 hne hr
  split at h <;> try (cases h; done)
  rename_i v1 hv1
  split at h <;> try (cases h; done)
  rename_i v2 hv2
  cases h
  rcases hX f xf hxf with hk | ⟨g, g1, g2, g3, g4⟩
  · obtain ⟨fn, c, k1, k2, k3, k4, k5, k6⟩ := func_of hk
    refine ⟨⟨⟨fn, k1, k3, by rw [k2]; rfl⟩, fun G g w args' core rel => ?_⟩, rfl⟩
    let Gc : Ghost := ⟨G.imm, fun _ => none, fun _ _ => none, crOf P nofz⟩
    have rel1 : ARel Gc (stripL args) args' := freeL_rel (G := G) (G' := Gc) (fun h => h) (stripL_rel rel) hfree
    have noGet : ∀ n o, Store.empty.get n ≠ some o := fun n o h => by cases h
    have noOwn : ∀ b, ¬ ∃ k, Own Gc Store.empty.get k b := fun b ⟨k, hk⟩ => by
      rcases hk with ⟨cs, e, _⟩ | ⟨_, _, _, _, e, _⟩ | ⟨x, e, _⟩ <;> exact noGet _ _ e
    have core1 : Core Gc Store.empty.get w := ⟨core.imm, fun n o h => absurd h (noGet n o), fun n m b h1 _ => absurd ⟨n, h1⟩ (noOwn b)⟩
    refine callsIn_wide.1 (callsIn_of_wp_marks (F := Fr none) (n := 0) k1 k2 trivial ?_)
    have hwp := ih.code none _ _ _ _ _ _ _ k4 hr w.heap.size Gc w { tmps := args' ++ Array.replicate (fn.ntmps - args'.size) undef, defers := [] } rfl core1 (fun m _ _ => ⟨rfl, fun _ => rfl, rfl⟩) (by rw [k6]; exact args_rel rel1 fn.ntmps) ⟨Nat.le_refl _, [], rfl, .nil, fun D h => by cases h⟩ (Rd.none w)
    refine wpIn_mono hwp (body_end k5 (fun id he => by subst he; exact hne _ rfl) hv1 ?_)
    intro u G1 w' m hu
    let G2 : Ghost := ⟨frozenAll G1 τ1.get w', G.ρ, G.H, G.cr⟩
    obtain ⟨hv3, _⟩ := sealR_rel m.core hu hv2 G2 rfl
    have keep : ∀ b, b < w.heap.size → w'.heap[b]? = w.heap[b]? ∧ ∀ o, G2.imm b o = G.imm b o := fun b hb => by
      obtain ⟨j1, j2, j3⟩ := m.ext.keep b hb (noOwn b)
      exact ⟨j1, fun o => (frozen_same j3 o).trans (j2 o)⟩
    have le : G.le G2 := ⟨fun {b o x} hx => frozen_imm (m.ext.le.imm hx), id, id, rfl⟩
    refine ⟨u, G2, rfl, ⟨fun b o x hx => frozen_cell m.core hx, fun k o hk => ?_, fun k k' b h1 h2 => core.inj k k' b h1 h2⟩, ⟨le, m.ext.os, m.ext.tape, m.ext.output, m.ext.size, m.ext.loops, fun b hb hno => ⟨(keep b hb).1, (keep b hb).2, hno⟩⟩, fun _ => ⟨rfl, fun _ => rfl, rfl⟩, hv3⟩
    exact (core.obj k o hk).keep le (fun _ => rfl) fun b _ hb => keep b hb
  · rw [g1] at hr
    cases n with
    | zero => simp [run] at hr
    | succ n =>
      simp only [run] at hr
      split at hr <;> try (cases hr; done)
      rename_i v0 hg
      cases hr
      obtain ⟨q1, q2, q3⟩ := g4 _ _ hg
      have e1 : v1 = v0 := by
        rw [g2] at hv1
        have hlen : 0 < (stripL args ++ List.replicate (xf.ntmps - (stripL args).length) aundef).length := by simp; omega
        simp only [xresult, xrets, xret, putT, List.getD_eq_getElem?_getD, List.getElem?_set_self hlen, Option.getD_some] at hv1
        exact (Option.some.inj hv1).symm
      subst e1
      have e2 : v = v1 := by
        unfold sealR at hv2
        simp only [q2, q1, if_true] at hv2
        exact (Option.some.inj hv2).symm
      subst e2
      exact ⟨⟨q3.1, fun G g w args' core rel => q3.2 G g w args' core (stripL_rel rel)⟩, rfl⟩

theorem gc_sub {σ τ : Store} {v : AVal} : Sub (gc σ τ v).get τ.get := fun _ _ hq => hq
theorem moved_gc {G G1 : Ghost} {σ τ : Store} {w w' : World} (m : Moved G σ w G1 τ w') (v : AVal) : Moved G σ w G1 (gc σ τ v) w' := by
  refine ⟨m.core.sub gc_sub, ⟨m.ext.le, m.ext.os, m.ext.tape, m.ext.output, m.ext.size, m.ext.loops, fun b hb hno => ?_⟩, m.next, fun k hk hg => ?_⟩
  · obtain ⟨j1, j2, j3⟩ := m.ext.keep b hb hno
    exact ⟨j1, j2, fun ⟨k, hk⟩ => j3 ⟨k, hk.sub gc_sub⟩⟩
  · have s := m.other k hk hg
    refine ⟨s.ρ, s.H, ?_⟩
    cases hq : (gc σ τ v).get k with
    | none => rfl
    | some q => have := gc_sub k q hq; rw [s.g] at this; cases this

/-- A call that works in the store. -/
theorem call_in (hX : Known P nofz X) {n : Nat} (ih : AllOk P nofz X n) {f : FuncId} {xf : XFunc} (hxf : X f = some xf) {args : List AVal} {σ τ1 : Store} {e1 : XExit} {t1 : List AVal} {v1 : AVal} (hne : ∀ id, e1 ≠ .exit id)
    (hr : run X n (.code xf.body) (args ++ List.replicate (xf.ntmps - args.length) aundef) σ = some (e1, t1, τ1)) (hv1 : xresult t1 τ1 xf.results = some v1) : CallOk P (crOf P nofz) f args σ v1 (gc σ τ1 v1) := by
  rcases hX f xf hxf with hk | ⟨g, g1, g2, g3, g4⟩
  · obtain ⟨fn, c, k1, k2, k3, k4, k5, k6⟩ := func_of hk
    refine ⟨⟨fn, k1, k3, by rw [k2]; rfl⟩, fun G w args' hG core news rel => ?_⟩
    refine callsIn_wide.1 (callsIn_of_wp_marks (F := Fr none) (n := 0) k1 k2 trivial ?_)
    have hwp := ih.code none _ _ _ _ _ _ _ k4 hr w.heap.size G w { tmps := args' ++ Array.replicate (fn.ntmps - args'.size) undef, defers := [] } hG core news (by rw [k6]; exact args_rel rel fn.ntmps) ⟨Nat.le_refl _, [], rfl, .nil, fun D h => by cases h⟩ (Rd.none w)
    refine wpIn_mono hwp (body_end k5 hne hv1 ?_)
    intro u G1 w' m hu
    exact ⟨u, G1, rfl, moved_gc m v1, hu⟩
  · rw [g1] at hr
    cases n with
    | zero => simp [run] at hr
    | succ n =>
      simp only [run] at hr
      split at hr <;> try (cases hr; done)
      rename_i v0 hg
      cases hr
      obtain ⟨q1, q2, q3⟩ := g4 _ _ hg
      have e1 : v1 = v0 := by
        rw [g2] at hv1
        have hlen : 0 < (args ++ List.replicate (xf.ntmps - args.length) aundef).length := by simp; omega
        simp only [xresult, xrets, xret, putT, List.getD_eq_getElem?_getD, List.getElem?_set_self hlen, Option.getD_some] at hv1
        exact (Option.some.inj hv1).symm
      subst e1
      refine ⟨q3.1, fun G w args' hG core news rel => Calls.mono (q3.2 G _ w args' core rel) ?_⟩
      rintro e w' ⟨u, G', rfl, c, x, s, hv⟩
      exact ⟨u, G', rfl, moved_gc ⟨c, x, Nat.le_refl _, fun m _ hg => ⟨(s m).ρ, (s m).H, hg⟩⟩ _, hv⟩

theorem step_call (hX : Known P nofz X) {n : Nat} (ih : AllOk P nofz X n) (f : FuncId) (args : List AVal) (σ : Store) (ex : XExit) (v : AVal) (τ : Store) (h : run X (n + 1) (.call f) args σ = some (ex, [v], τ)) : CallOk P (crOf P nofz) f args σ v τ := by
  cases hfree : freeL (stripL args) with
  | true =>
    obtain ⟨⟨hent, hp⟩, rfl⟩ := step_pure hX ih f args σ ex v τ hfree h
    refine ⟨hent, fun G w args' hG core news rel => Calls.mono (hp G _ w args' core rel) ?_⟩
    rintro e w' ⟨u, G', rfl, c, x, s, hv⟩
    exact ⟨u, G', rfl, ⟨c, x, Nat.le_refl _, fun m _ hg => ⟨(s m).ρ, (s m).H, hg⟩⟩, hv⟩
  | false =>
    simp only [run] at h
    split at h <;> try (cases h; done)
    rename_i xf hxf
    rw [if_neg (by rw [hfree]; simp)] at h
    split at h <;> try (cases h; done)
    rename_i e1 t1 τ1 hne hr
    split at h <;> try (cases h; done)
    rename_i v1 hv1
    have hv : v1 = v ∧ gc σ τ1 v1 = τ := by
      have h1 := Option.some.inj h
      simp only [Prod.mk.injEq, List.cons.injEq, and_true] at h1
      exact h1.2
    clear h
    obtain ⟨rfl, rfl⟩ := hv
    exact call_in hX ih hxf (fun id he => by subst he; exact hne _ rfl) hr hv1
theorem step_callK (hX : Known P nofz X) {n : Nat} (ih : AllOk P nofz X n) (f : FuncId) (args : List AVal) (σ : Store) (ex : XExit) (v : AVal) (τ : Store) (h : run X (n + 1) (.callK f) args σ = some (ex, [v], τ)) : CallOk P (crOf P nofz) f args σ v τ := by
  simp only [run] at h
  split at h <;> try (cases h; done)
  rename_i xf hxf
  split at h <;> try (cases h; done)
  rename_i e1 t1 τ1 hne hr
  split at h <;> try (cases h; done)
  rename_i v1 hv1
  have hv : v1 = v ∧ gc σ τ1 v1 = τ := by
    have h1 := Option.some.inj h
    simp only [Prod.mk.injEq, List.cons.injEq, and_true] at h1
    exact h1.2
  clear h
  obtain ⟨rfl, rfl⟩ := hv
  exact call_in hX ih hxf (fun id he => by subst he; exact hne _ rfl) hr hv1

theorem setPs_rel {G : Ghost} {tm : List AVal} {cs : Array Value} (h : ARel G tm cs) : ∀ (ps : List Nat) (qs : Array Nat) (args : List AVal) (vs : Array Value), qs.toList = ps → ARel G args vs → ARel G (setPs tm ps args) ((qs.zip vs).foldl (fun t p => t.setIfInBounds p.1 p.2) cs) := by
  intro ps qs args vs hq hr
  subst hq
  have e : (qs.zip vs).foldl (fun t p => t.setIfInBounds p.1 p.2) cs = (qs.toList.zip vs.toList).foldl (fun t p => t.setIfInBounds p.1 p.2) cs := by
    rw [← Array.foldl_toList, Array.toList_zip]
  rw [e]
  unfold setPs
  have hr' : ∀ (i : Nat) (x : AVal) (v : Value), args[i]? = some x → vs.toList[i]? = some v → VRel G x v := fun i x v h1 h2 => hr.val i x v h1 (by simpa using h2)
  have hl : args.length = vs.toList.length := by have := hr.len; simpa using this
  generalize qs.toList = l at *
  generalize vs.toList = us at *
  clear e hr
  induction l generalizing tm cs args us with
  | nil => simpa using h
  | cons p l ih =>
    match args, us, hl with
    | [], [], _ => simpa using h
    | x :: args, u :: us, hl =>
      simp only [List.zip_cons_cons, List.foldl_cons]
      exact ih (h.set (hr' 0 x u rfl rfl) p) args us (fun i y v h1 h2 => hr' (i + 1) y v (by simpa using h1) (by simpa using h2)) (by simpa using hl)

theorem step_round {n : Nat} (ih : AllOk P nofz X n) (m : Nat) (args : List AVal) (σ : Store) (ex : XExit) (v : AVal) (τ : Store) (h : run X (n + 1) (.round m) args σ = some (ex, [v], τ)) : RoundOk P (crOf P nofz) m args σ v τ := by
  simp only [run] at h
  split at h <;> try (cases h; done)
  rename_i t0 a b hin
  split at h <;> try (cases h; done)
  rename_i tm1 σ1 hr1
  split at h <;> try (cases h; done)
  rename_i σ2 hmid
  split at h <;> try (cases h; done)
  rename_i e2 tm3 σ3 hr2
  split at h <;> try (cases h; done)
  rename_i σ4 hout
  have hv : AVal.bool e2.isN = v ∧ σ4 = τ := by
    have h1 := Option.some.inj h
    simp only [Prod.mk.injEq, List.cons.injEq, and_true] at h1
    exact h1.2
  clear h
  obtain ⟨rfl, rfl⟩ := hv
  intro G w args' l hG core news rel hρ
  unfold roundIn at hin
  split at hin <;> try (cases hin; done)
  rename_i tm ps a0 b0 hg
  split at hin <;> try (cases hin; done)
  rename_i hlen
  cases hin
  obtain ⟨l', ob, k1, k2, ⟨r, rfl, k3, k4, k5, k6, k7⟩, _⟩ := core.obj _ _ hg
  rw [hρ] at k1; cases k1
  rw [hG] at k6 k7
  have a1 := k6
  have b1 := k7
  have hsz : args'.size = r.params.size := by rw [← rel.len, hlen, ← k5]; simp
  have n2 : σ2.next = σ1.next := by
    unfold roundMid at hmid
    split at hmid <;> try (cases hmid; done)
    cases hmid; rfl
  have n4 : σ4.next = σ3.next := by
    unfold roundOut at hout
    split at hout <;> try (cases hout; done)
    cases hout; rfl
  have q2 := ih.next _ _ _ _ _ _ hr2
  have newsT : News G σ σ3.next := by rw [n4] at news; exact news
  have hst : r.state = .ready := by
    generalize hs : r.state = s at k3
    generalize hp : r.pending = p at k3
    cases k3; rfl
  refine ⟨r.fn, _, r.assign, r.body, run_yield k2 hsz, ?_⟩
  refine roundIn_of_wpIn trivial ?_
  have c1 := ih.code (some l) r.assign _ _ _ _ _ _ a1 hr1 0 G w { tmps := (r.params.zip args').foldl (fun t p => t.setIfInBounds p.1 p.2) r.tmps, defers := [] } hG core (news_le newsT (by omega)) (setPs_rel k4 ps r.params args args' k5 rel) Marks.nil (fun l' hl => by cases hl; exact ⟨r, k2⟩)
  refine wpIn_mono c1 ?_
  rintro e a₁ w₁ ⟨he, hd1, G1, m1, r1⟩
  cases he
  unfold roundMid at hmid
  split at hmid <;> try (cases hmid; done)
  rename_i tm' ps' a' b' hg1
  cases hmid
  obtain ⟨l1, ob1, j1, j2, ⟨r1', rfl, j3, j4, j5, j6, j7⟩, _⟩ := m1.core.obj _ _ hg1
  have el : l1 = l := by have := m1.ext.le.ρ hρ; rw [j1] at this; exact Option.some.inj this
  subst el
  have hst1 : r1'.state = .ready ∧ r1'.pending = none := by
    generalize hs : r1'.state = s at j3
    generalize hp : r1'.pending = p at j3
    cases j3; exact ⟨rfl, rfl⟩
  have hy : OthRel G1 (.loop .busy tm' ps' a' b') (.loop { r1' with state := .busy }) := ⟨_, rfl, by simp only [hst1.2]; exact .busy, j4, j5, j6, j7⟩
  have m2 := moved_setO m1.core hg1 j1 hy (fun _ _ _ _ _ _ => ⟨_, _, _, _, _, rfl⟩)
  refine ⟨_, run_beginRound j2 hst1.1, ?_⟩
  have hG1 : G1.cr = crOf P nofz := m1.ext.le.cr.trans hG
  have c2 := ih.code (some l1) r.body _ _ _ _ _ _ b1 hr2 0 G1 (w₁.putObj l1 (.loop { r1' with state := .busy })) a₁ hG1 m2.core (news_moved (news_moved newsT m1) m2) r1 (hd1.ext m1.core m2.ext) (fun l' hl => by cases hl; exact ⟨_, World.putObj_heap_same (heap_lt j2)⟩)
  refine wpIn_mono c2 ?_
  rintro e a₃ w₃ ⟨he, hd3, G3, m3, r3⟩
  unfold roundOut at hout
  split at hout <;> try (cases hout; done)
  rename_i tm'' ps'' a'' b'' hg3
  cases hout
  obtain ⟨l3, ob3, i1, i2, ⟨r3', rfl, i3, i4, i5, i6, i7⟩, _⟩ := m3.core.obj _ _ hg3
  have el : l3 = l1 := by have := m3.ext.le.ρ j1; rw [i1] at this; exact Option.some.inj this
  subst el
  have fin : ∀ (jump : Option Code) (st : LSt), StRel st (if jump.isNone then .ready else .done) jump → (if e2.isN then LSt.ready else .done e2) = st → e2.isN = jump.isNone →
      ∃ v w', (Instr.endRound l3 jump).run P w₃ = .ok v w' ∧ ∃ v' G', Ending.returned v = .returned v' ∧ Moved G σ w G' (σ3.put m (.oth (.loop (if e2.isN then .ready else .done e2) tm'' ps'' a'' b''))) w' ∧ VRel G' (.bool e2.isN) v' := by
    intro jump st hs e1 e3
    rw [e1]
    have hy3 : OthRel G3 (.loop st tm'' ps'' a'' b'') (.loop { r3' with state := if jump.isNone then .ready else .done, pending := jump }) := ⟨_, rfl, hs, i4, i5, i6, i7⟩
    have m4 := moved_setO m3.core hg3 i1 hy3 (fun _ _ _ _ _ _ => ⟨_, _, _, _, _, rfl⟩)
    refine ⟨_, _, run_endRound jump i2, .bool jump.isNone, G3, rfl, ((m1.trans m2).trans m3).trans m4, ?_⟩
    rw [e3]; exact .bool _
  cases he with
  | normal => exact fin none .ready .ready rfl rfl
  | ret => exact fin (some .ret) (.done .ret) .ret rfl rfl
  | exit id => exact fin (some (.exit id)) (.done (.exit id)) (.exit id) rfl rfl

/-- WHAT A RUN MEANS. -/
theorem all_ok (hm : P.follows .mixedOrders = true) (hX : Known P nofz X) : ∀ n, AllOk P nofz X n
  | 0 => ⟨fun _ _ _ _ _ _ _ _ _ h => by simp [run] at h, fun _ _ _ _ _ _ _ _ _ h => by simp [run] at h, fun _ _ _ _ _ _ _ _ _ _ h => by simp [run] at h, fun _ _ _ _ _ _ _ h => by simp [run] at h, fun _ _ _ _ _ _ h => by simp [run] at h, fun _ _ _ _ _ _ h => by simp [run] at h, fun _ _ _ _ _ _ h => by simp [run] at h, fun _ _ _ _ _ _ _ h => by simp [run] at h, fun _ _ _ _ _ _ h => by simp [run] at h⟩
  | n + 1 =>
    have ih := all_ok hm hX n
    ⟨step_code hm ih, step_loop' ih, step_ops ih, step_dops ih, step_call hX ih, step_callK hX ih, step_round ih, step_pure hX ih, step_next ih⟩
end

theorem known_xprog (P : Program) (nofz : List FuncId) : Known P nofz (xprog P nofz) := fun f xf h => by
  unfold xprog at h
  cases hf : P.funcs[f]? with
  | none => rw [hf] at h; cases h
  | some fn => rw [hf] at h; exact .inl ⟨fn, rfl, h⟩
theorem known_xprogG (P : Program) (nofz : List FuncId) (gs : List (FuncId × Nat × (List AVal → Option AVal)))
    (hg : ∀ q ∈ gs, 1 ≤ q.2.1 ∧ ∀ args v, q.2.2 (args ++ List.replicate (q.2.1 - args.length) aundef) = some v → v.free = true ∧ v.strip = v ∧ PureOk P q.1 args v) : Known P nofz (xprogG P nofz gs) := fun f xf h => by
  unfold xprogG at h
  split at h
  · rename_i f' n g hf
    cases h
    have h1 := List.mem_of_find?_eq_some hf
    have h2 := List.find?_some hf
    have e : f' = f := Nat.eq_of_beq_eq_true h2
    subst e
    obtain ⟨q1, q2⟩ := hg _ h1
    exact .inr ⟨g, rfl, rfl, q1, q2⟩
  · exact known_xprog P nofz f xf h
end Go.Proofs.Ytgijgcmcpgepaaa.Eng
