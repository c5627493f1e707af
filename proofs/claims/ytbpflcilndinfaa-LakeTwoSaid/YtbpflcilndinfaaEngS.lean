/-
  ENGINE, S: what a run means.
-/
import Derived.Test.YtbpflcilndinfaaEngR
import Derived.Scope
namespace Go.Proofs.Ytbpflcilndinfaa.Eng
set_option linter.unusedSimpArgs false
set_option linter.unusedVariables false

inductive ExRel : XExit → Exit → Prop
  | normal : ExRel .normal .normal
  | exit (id : Nat) : ExRel (.exit id) (.exit id)
  | ret : ExRel .ret .ret

def Post (G : Ghost) (σ : Store) (w : World) (ex : XExit) (tm : List AVal) (τ : Store) : Exit → Act → World → Prop := fun e a' w' => ExRel ex e ∧ a'.defers = [] ∧ ∃ G', Moved G σ w G' τ w' ∧ ARel G' tm a'.tmps

def CodeOk (P : Program) (c : Code) (tm : List AVal) (σ : Store) (ex : XExit) (tm' : List AVal) (τ : Store) : Prop :=
  ∀ G w a, Core G σ.get w → News G σ τ.next → ARel G tm a.tmps → a.defers = [] → c.wp P (Post G σ w ex tm' τ) a w

/-- The rest of a loop. -/
def InLoopWp (P : Program) (c : Code) (Q : Exit → Act → World → Prop) (a : Act) (w : World) : Prop :=
  ∀ (b : Frame) (k : List Item) (cs : List Frame), ∃ e a' w', Q e a' w' ∧ Arrives P (lone (b.at a (.inLoop c :: k)) cs w) b k cs e a' w'
def LoopOk (P : Program) (c : Code) (tm : List AVal) (σ : Store) (ex : XExit) (tm' : List AVal) (τ : Store) : Prop :=
  ∀ G w a, Core G σ.get w → News G σ τ.next → ARel G tm a.tmps → a.defers = [] → InLoopWp P c (Post G σ w ex tm' τ) a w

theorem loop_body {P : Program} {c : Code} {Q : Exit → Act → World → Prop} {a : Act} {w : World} (h : c.wp P (Exit.then (InLoopWp P c Q) Q) a w) (b : Frame) (k : List Item) (cs : List Frame) :
    ∃ e a' w', Q e a' w' ∧ Arrives P (lone (b.at a (.code c :: .inLoop c :: k)) cs w) b k cs e a' w' := by
  obtain ⟨e, a₁, w₁, hq, harr⟩ := h b (.inLoop c :: k) cs
  cases e with
  | normal =>
    obtain ⟨e₂, a₂, w₂, hq₂, harr₂⟩ := hq b k cs
    exact ⟨e₂, a₂, w₂, hq₂, .of_steps harr harr₂⟩
  | exit id => exact ⟨_, a₁, w₁, hq, .pass (x := .inLoop c) rfl (fun _ _ => .inl (by simp)) harr⟩
  | goto l => exact ⟨_, a₁, w₁, hq, .pass (x := .inLoop c) rfl (fun _ _ => .inl (by simp)) harr⟩
  | ret => exact ⟨_, a₁, w₁, hq, .pass (x := .inLoop c) rfl (fun _ _ => .inl (by simp)) harr⟩
  | panic ch => exact ⟨_, a₁, w₁, hq, .pass (x := .inLoop c) rfl (fun _ _ => .inl (by simp)) harr⟩
  | outgrown => exact ⟨_, a₁, w₁, hq, .pass (x := .inLoop c) rfl (fun _ _ => .inl (by simp)) harr⟩
theorem inLoop_of {P : Program} {c : Code} {Q : Exit → Act → World → Prop} {a : Act} {w : World} (h : c.wp P (Exit.then (InLoopWp P c Q) Q) a w) : InLoopWp P c Q a w := fun b k cs => by
  obtain ⟨e, a', w', h1, h2⟩ := loop_body h b k cs
  exact ⟨e, a', w', h1, .of_steps (.one step_inLoop) h2⟩
theorem wp_loop_of {P : Program} {c : Code} {Q : Exit → Act → World → Prop} {a : Act} {w : World} (h : c.wp P (Exit.then (InLoopWp P c Q) Q) a w) : (Code.loop c).wp P Q a w := fun b k cs => by
  obtain ⟨e, a', w', h1, h2⟩ := loop_body h b k cs
  exact ⟨e, a', w', h1, .of_steps (.one step_loop) h2⟩

inductive OpsFit (P : Program) (nofz : List FuncId) (ops : Array Oper) : List Nat → List XOper → Prop
  | nil : OpsFit P nofz ops [] []
  | cons {i o x pre l xl} : ops[i]? = some o → xoper P nofz ops o pre = some x → OpsFit P nofz ops l xl → OpsFit P nofz ops (i :: l) (x :: xl)
def OpsOk (P : Program) (ops : Array Oper) (l : List Nat) (tm : List AVal) (σ : Store) (tm' : List AVal) (τ : Store) : Prop :=
  ∀ G w a, Core G σ.get w → News G σ τ.next → ARel G tm a.tmps → a.defers = [] → ∀ Q : Exit → Act → World → Prop, (∀ G' a' w', Moved G σ w G' τ w' → ARel G' tm' a'.tmps → a'.defers = [] → Q .normal a' w') → wpOps P ops Q l a w

theorem opsFit_of {P : Program} {nofz : List FuncId} {ops : Array Oper} : ∀ (l : List Oper) (ps : List (List Nat)) (xs : List XOper) (k : Nat), (∀ i o, l[i]? = some o → ops[k + i]? = some o) → xopers P nofz ops l ps = some xs → OpsFit P nofz ops ((List.range l.length).map (k + ·)) xs
  | [], ps, xs, k, _, h => by simp only [xopers] at h; cases h; exact .nil
  | o :: l, ps, xs, k, hk, h => by
    simp only [xopers] at h
    split at h <;> try (cases h; done)
    rename_i x m h1 h2
    cases h
    have ih := opsFit_of l ps.tail m (k + 1) (fun i o' ho => by have := hk (i + 1) o' (by simpa using ho); rwa [show k + 1 + i = k + (i + 1) from by omega]) h2
    have e : (List.range (o :: l).length).map (k + ·) = k :: (List.range l.length).map (k + 1 + ·) := by
      rw [List.length_cons, List.range_succ_eq_map]
      simp only [List.map_cons, List.map_map, Nat.add_zero]
      congr 1
      apply List.map_congr_left
      intro j _
      simp; omega
    rw [e]
    exact .cons (hk 0 o (by simp)) h1 ih

structure AllOk (P : Program) (nofz : List FuncId) (X : FuncId → Option XFunc) (n : Nat) : Prop where
  code : ∀ c xc tm σ ex tm' τ, xcodeOf P nofz c = some xc → run X n (.code xc) tm σ = some (ex, tm', τ) → CodeOk P c tm σ ex tm' τ
  loop : ∀ c xc tm σ ex tm' τ, xcodeOf P nofz c = some xc → run X n (.code (.loop xc)) tm σ = some (ex, tm', τ) → LoopOk P c tm σ ex tm' τ
  ops : ∀ ops l xl tm σ ex tm' τ, OpsFit P nofz ops l xl → run X n (.ops xl) tm σ = some (ex, tm', τ) → ex = .normal ∧ OpsOk P ops l tm σ tm' τ
  dops : ∀ l recs tm σ ex tm' τ, run X n (.dops l recs) tm σ = some (ex, tm', τ) → ex = .normal ∧ ∃ fs, Chain P l recs tm σ fs tm' τ
  call : ∀ f args σ ex v τ, run X n (.call f) args σ = some (ex, [v], τ) → CallOk P f args σ v τ
  pure : ∀ f args σ ex v τ, freeL (stripL args) = true → run X n (.call f) args σ = some (ex, [v], τ) → PureOk P f args v ∧ τ = σ
  next : ∀ job tm σ ex tm' τ, run X n job tm σ = some (ex, tm', τ) → σ.next ≤ τ.next

theorem moved_drew {G G' : Ghost} {σ σ' : Store} {w w' : World} (h : Moved G σ w.drew G' σ' w') : Moved G σ w G' σ' w' := ⟨h.core, Ext.drewL h.ext, h.next, h.other⟩

theorem news_le {G : Ghost} {σ : Store} {a b : Nat} (h : News G σ b) (hab : a ≤ b) : News G σ a := fun m h1 h2 => h m h1 (by omega)
theorem news_moved {G G' : Ghost} {σ σ' : Store} {w w' : World} {b : Nat} (h : News G σ b) (m : Moved G σ w G' σ' w') : News G' σ' b := fun k h1 h2 => m.fresh k (.inr h1) (h k (by have := m.next; omega) h2)

theorem capsOf_rel {G : Ghost} {tm : List AVal} {a : Act} (hr : ARel G tm a.tmps) : ∀ (l : List XOper), ∃ vs : List Value, ARel G (capsOf tm l) vs.toArray
  | [] => ⟨[], ARel.nil G⟩
  | o :: l => by
    obtain ⟨vs, ih⟩ := capsOf_rel hr l
    have caps : ∀ cl : List XOpd, ∃ us : List Value, ARel G (cl.filterMap (capOne tm)) us.toArray := by
      intro cl
      induction cl with
      | nil => exact ⟨[], ARel.nil G⟩
      | cons x cl ih2 =>
        obtain ⟨us, h2⟩ := ih2
        cases x with
        | c v => exact ⟨us, h2⟩
        | t n =>
          have et : (XOpd.t n :: cl).filterMap (capOne tm) = tm.getD n aundef :: cl.filterMap (capOne tm) := rfl
          rw [et]
          refine ⟨a.tmps.getD n undef :: us, ⟨by have := h2.len; simpa using this, fun i y u e1 e2 => ?_⟩⟩
          cases i with
          | zero => simp at e1 e2; subst e1; subst e2; have := hr.getD n; simpa using this
          | succ i => exact h2.val i y u (by simpa using e1) (by simpa using e2)
    simp only [capsOf]
    split
    · rename_i f fst cl _
      obtain ⟨us, h2⟩ := caps cl
      exact ⟨us ++ vs, by have := h2.append ih; simpa using this⟩
    · exact ⟨vs, ih⟩

section
variable {P : Program} {nofz : List FuncId} {X : FuncId → Option XFunc}

theorem code_then {G G' : Ghost} {σ σ1 : Store} {w w1 : World} {ex : XExit} {tm' : List AVal} {τ : Store} (m : Moved G σ w G' σ1 w1) : ∀ e a' w', Post G' σ1 w1 ex tm' τ e a' w' → Post G σ w ex tm' τ e a' w' :=
  fun e a' w' ⟨h1, h2, G2, h3, h4⟩ => ⟨h1, h2, G2, m.trans h3, h4⟩

theorem step_code (hm : P.follows .mixedOrders = true) {n : Nat} (ih : AllOk P nofz X n) (c : Code) (xc : XCode) (tm : List AVal) (σ : Store) (ex : XExit) (tm' : List AVal) (τ : Store) (hc : xcodeOf P nofz c = some xc) (h : run X (n + 1) (.code xc) tm σ = some (ex, tm', τ)) : CodeOk P c tm σ ex tm' τ := by
  intro G w a core news rel hd
  cases c with
  | skip =>
    simp only [xcodeOf] at hc; cases hc
    simp only [run] at h; cases h
    exact wp_skip ⟨.normal, hd, G, .refl core, rel⟩
  | region id ops draw =>
    simp only [xcodeOf] at hc
    cases draw with
    | false =>
      simp only [Bool.false_eq_true, if_false] at hc
      obtain ⟨xs, hx, rfl⟩ := map_some hc
      simp only [run] at h
      have hf := opsFit_of _ _ _ 0 (fun i o ho => by simpa using ho) hx
      have e : (List.range ops.toList.length).map (0 + ·) = List.range ops.size := by simp
      rw [e] at hf
      obtain ⟨rfl, hok⟩ := ih.ops _ _ _ _ _ _ _ _ hf h
      exact wp_region (hok G w a core news rel hd _ fun G' a' w' m r d => ⟨.normal, d, G', m, r⟩)
    | true =>
      simp only [if_true] at hc
      split at hc <;> try (cases hc; done)
      rename_i xs hx
      split at hc <;> try (cases hc; done)
      rename_i hst
      simp only [Bool.and_eq_true] at hst
      cases hc
      simp only [run] at h
      obtain ⟨rfl, fs, hch⟩ := ih.dops _ _ _ _ _ _ _ h
      have st := setting_of hx hst.1 hst.2 hch
      refine wp_region_any hm ?_
      obtain ⟨vs, hvs⟩ := capsOf_rel rel xs
      obtain ⟨G1, m1, _⟩ := xcaps_rel (w := w.drew) _ G σ vs core.drew hvs
      have news1 := news_moved news m1
      have inv : Inv P ops fs tm (xcaps σ (capsOf tm xs)).2 τ G1 w.drew (fun j => (Array.replicate ops.size false).getD j false) G1 a w.drew := by
        have hS : (fun j => (Array.replicate ops.size false).getD j false) = fun _ => false := by
          funext j
          by_cases hj : j < ops.size <;> simp [hj]
        rw [hS]
        have e1 : gS fs (xcaps σ (capsOf tm xs)).2 (fun _ => false) = (xcaps σ (capsOf tm xs)).2.get := by
          funext k
          unfold gS
          rw [lastV_none _ (Nat.zero_le _) (fun j _ _ _ => rfl)]; rfl
        have e2 : tmS fs tm (fun _ => false) = tm := by
          apply List.ext_getElem?
          intro t
          by_cases ht : t < tm.length
          · rw [tmS_get _ _ _ ht, lastV_none _ (Nat.zero_le _) (fun j _ _ _ => rfl)]
            simp [lastV, List.getD_eq_getElem?_getD, List.getElem?_eq_getElem ht]
          · rw [List.getElem?_eq_none (by rw [tmS_length]; omega), List.getElem?_eq_none (by omega)]
        refine ⟨by rw [e1]; exact m1.core, by rw [e2]; exact rel.mono m1.ext.le, hd, by rw [e1]; exact .refl _ _ _, fun k _ hk => by rw [e1]; exact ⟨rfl, fun _ => rfl, hk⟩, fun i f hf _ k h1 h2 => ?_, fun _ _ _ h => by cases h⟩
        rw [e1]
        obtain ⟨b1, b2, b3⟩ := st.next i f hf
        exact news1 k (by omega) (by omega)
      refine any_ok st (fun G' a' w' iv => ?_) ops.size _ G1 a w.drew (by simp) (by simp) inv
      have e1 : gS fs (xcaps σ (capsOf tm xs)).2 (fun _ => true) = τ.get := by
        funext k; exact (st.last.σv k).symm
      have e2 : tmS fs tm (fun _ => true) = tm' := by
        apply List.ext_getElem?
        intro t
        by_cases ht : t < tm.length
        · rw [tmS_get _ _ _ ht, st.last.tmv t ht]
        · rw [List.getElem?_eq_none (by rw [tmS_length]; omega), List.getElem?_eq_none (by rw [st.last.len]; omega)]
      have m2 : Moved G1 (xcaps σ (capsOf tm xs)).2 w.drew G' τ w' := ⟨by rw [← e1]; exact iv.core, by rw [← e1]; exact iv.ext, st.next0, fun k hk hg => by rw [← e1]; exact iv.other k hk hg⟩
      exact ⟨.normal, iv.defers, G', moved_drew (m1.trans m2), by rw [← e2]; exact iv.rel⟩
  | seq x y =>
    simp only [xcodeOf] at hc
    split at hc <;> try (cases hc; done)
    rename_i xx xy h1 h2
    cases hc
    simp only [run] at h
    refine wp_seq ?_
    cases hr : run X n (.code xx) tm σ with
    | none => rw [hr] at h; cases h
    | some r =>
      obtain ⟨ex1, tm1, σ1⟩ := r
      rw [hr] at h
      have key : ∀ hle : σ1.next ≤ τ.next, x.wp P (Post G σ w ex1 tm1 σ1) a w := fun hle => ih.code _ _ _ _ _ _ _ h1 hr G w a core (news_le news hle) rel hd
      cases ex1 with
      | normal =>
        refine wp_mono (key (ih.next _ _ _ _ _ _ h)) ?_
        rintro e a1 w1 ⟨he, hd1, G1, m1, r1⟩
        cases he
        exact wp_mono (ih.code _ _ _ _ _ _ _ h2 h G1 w1 a1 m1.core (news_moved news m1) r1 hd1) (code_then m1)
      | exit id =>
        cases h
        refine wp_mono (key (Nat.le_refl _)) ?_
        rintro e a1 w1 hp
        have he := hp.1
        cases he
        exact hp
      | ret =>
        cases h
        refine wp_mono (key (Nat.le_refl _)) ?_
        rintro e a1 w1 hp
        have he := hp.1
        cases he
        exact hp
  | cond q x y =>
    simp only [xcodeOf] at hc
    split at hc <;> try (cases hc; done)
    rename_i xq xx xy h0 h1 h2
    cases hc
    simp only [run] at h
    have hv := (xopd_fit h0).rel rel
    split at h <;> try (cases h; done)
    · rename_i he
      rw [he] at hv
      generalize hb : a.eval q = b at hv
      cases hv
      exact wp_cond (t := true) hb (ih.code _ _ _ _ _ _ _ h1 h G w a core news rel hd)
    · rename_i he
      rw [he] at hv
      generalize hb : a.eval q = b at hv
      cases hv
      exact wp_cond (t := false) hb (ih.code _ _ _ _ _ _ _ h2 h G w a core news rel hd)
  | block id x =>
    simp only [xcodeOf] at hc
    obtain ⟨xx, h1, rfl⟩ := map_some hc
    simp only [run] at h
    refine wp_block ?_
    cases hr : run X n (.code xx) tm σ with
    | none => rw [hr] at h; cases h
    | some r =>
      obtain ⟨ex1, tm1, σ1⟩ := r
      rw [hr] at h
      have key : σ1 = τ → x.wp P (Post G σ w ex1 tm1 σ1) a w := fun hs => ih.code _ _ _ _ _ _ _ h1 hr G w a core (by rw [hs]; exact news) rel hd
      cases ex1 with
      | normal =>
        cases h
        refine wp_mono (key rfl) ?_
        rintro e a1 w1 hp
        have he := hp.1
        cases he
        exact hp
      | ret =>
        cases h
        refine wp_mono (key rfl) ?_
        rintro e a1 w1 hp
        have he := hp.1
        cases he
        exact hp
      | exit id' =>
        simp only at h
        by_cases hid : id' = id
        · subst hid
          have hb : Nat.beq id' id' = true := by rw [Nat.beq_eq]
          rw [if_pos hb] at h
          cases h
          refine wp_mono (key rfl) ?_
          rintro e a1 w1 ⟨he, h3⟩
          cases he
          simp only [Exit.inBlock, if_true]
          exact ⟨.normal, h3⟩
        · have hb : ¬ Nat.beq id' id = true := by rw [Nat.beq_eq]; exact hid
          rw [if_neg hb] at h
          cases h
          refine wp_mono (key rfl) ?_
          rintro e a1 w1 hp
          have he := hp.1
          cases he
          simp only [Exit.inBlock, if_neg hid]
          exact hp
  | loop x =>
    simp only [xcodeOf] at hc
    obtain ⟨xx, h1, rfl⟩ := map_some hc
    simp only [run] at h
    refine wp_loop_of ?_
    cases hr : run X n (.code xx) tm σ with
    | none => rw [hr] at h; cases h
    | some r =>
      obtain ⟨ex1, tm1, σ1⟩ := r
      rw [hr] at h
      have key : ∀ hle : σ1.next ≤ τ.next, x.wp P (Post G σ w ex1 tm1 σ1) a w := fun hle => ih.code _ _ _ _ _ _ _ h1 hr G w a core (news_le news hle) rel hd
      cases ex1 with
      | normal =>
        refine wp_mono (key (ih.next _ _ _ _ _ _ h)) ?_
        rintro e a1 w1 ⟨he, hd1, G1, m1, r1⟩
        cases he
        intro b k cs
        obtain ⟨e2, a2, w2, q1, q2⟩ := ih.loop _ _ _ _ _ _ _ h1 h G1 w1 a1 m1.core (news_moved news m1) r1 hd1 b k cs
        exact ⟨e2, a2, w2, code_then m1 _ _ _ q1, q2⟩
      | exit id =>
        cases h
        refine wp_mono (key (Nat.le_refl _)) ?_
        rintro e a1 w1 hp
        have he := hp.1
        cases he
        exact hp
      | ret =>
        cases h
        refine wp_mono (key (Nat.le_refl _)) ?_
        rintro e a1 w1 hp
        have he := hp.1
        cases he
        exact hp
  | exit id =>
    simp only [xcodeOf] at hc; cases hc
    simp only [run] at h; cases h
    exact wp_exit ⟨.exit id, hd, G, .refl core, rel⟩
  | ret =>
    simp only [xcodeOf] at hc; cases hc
    simp only [run] at h; cases h
    exact wp_ret ⟨.ret, hd, G, .refl core, rel⟩
  | _ => simp only [xcodeOf] at hc; cases hc

theorem step_loop' {n : Nat} (ih : AllOk P nofz X n) (c : Code) (xc : XCode) (tm : List AVal) (σ : Store) (ex : XExit) (tm' : List AVal) (τ : Store) (hc : xcodeOf P nofz c = some xc) (h : run X (n + 1) (.code (.loop xc)) tm σ = some (ex, tm', τ)) : LoopOk P c tm σ ex tm' τ := by
  intro G w a core news rel hd
  simp only [run] at h
  refine inLoop_of ?_
  cases hr : run X n (.code xc) tm σ with
  | none => rw [hr] at h; cases h
  | some r =>
    obtain ⟨ex1, tm1, σ1⟩ := r
    rw [hr] at h
    have key : ∀ hle : σ1.next ≤ τ.next, c.wp P (Post G σ w ex1 tm1 σ1) a w := fun hle => ih.code _ _ _ _ _ _ _ hc hr G w a core (news_le news hle) rel hd
    cases ex1 with
    | normal =>
      refine wp_mono (key (ih.next _ _ _ _ _ _ h)) ?_
      rintro e a1 w1 ⟨he, hd1, G1, m1, r1⟩
      cases he
      intro b k cs
      obtain ⟨e2, a2, w2, q1, q2⟩ := ih.loop _ _ _ _ _ _ _ hc h G1 w1 a1 m1.core (news_moved news m1) r1 hd1 b k cs
      exact ⟨e2, a2, w2, code_then m1 _ _ _ q1, q2⟩
    | exit id =>
      cases h
      refine wp_mono (key (Nat.le_refl _)) ?_
      rintro e a1 w1 hp
      have he := hp.1
      cases he
      exact hp
    | ret =>
      cases h
      refine wp_mono (key (Nat.le_refl _)) ?_
      rintro e a1 w1 hp
      have he := hp.1
      cases he
      exact hp
end
end Go.Proofs.Ytbpflcilndinfaa.Eng
