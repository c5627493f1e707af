/-
  ENGINE, S: what a run means.
-/
import Derived.Test.YtgijgcmcpgepaaaEngR
import Derived.Scope
import Derived.RangeFuncRecord
namespace Go.Proofs.Ytgijgcmcpgepaaa.Eng
set_option linter.unusedSimpArgs false
set_option linter.unusedVariables false

inductive ExRel : XExit → Exit → Prop
  | normal : ExRel .normal .normal
  | exit (id : Nat) : ExRel (.exit id) (.exit id)
  | ret : ExRel .ret .ret

/-- The marks that loops over functions have left: each names a block without deferred calls, behind B. -/
def markOf (D : Nat) : Deferred := { target := .collected D, args := #[] }
def Marks (B : Nat) (ds : List Deferred) (w : World) : Prop := B ≤ w.heap.size ∧ ∃ Ds : List Nat, ds = Ds.map markOf ∧ Ds.Nodup ∧ ∀ D, D ∈ Ds → B ≤ D ∧ w.heap[D]? = some (.deferred (some []))
theorem Marks.nil {w : World} : Marks 0 [] w := ⟨Nat.zero_le _, [], rfl, .nil, fun D h => by cases h⟩
theorem not_own {G : Ghost} {g : Mem} {w : World} (c : Core G g w) {b : Nat} {ob : Obj} (h : w.heap[b]? = some ob) (hc : ∀ x t f, ob ≠ .cells x t f) (ho : ∀ x, ¬ OthRel G x ob) : ¬ ∃ n, Own G g n b := by
  rintro ⟨n, ⟨cs, h1, h2⟩ | ⟨e, s, len, cap, h1, h2⟩ | ⟨x, h1, h2⟩⟩
  · obtain ⟨b', c', t, k1, k2, _⟩ := c.obj n _ h1
    rw [h2] at k1; cases k1; rw [h] at k2; cases k2; exact hc _ _ _ rfl
  · rcases c.obj n _ h1 with ⟨_, z2⟩ | ⟨b', cap', c', k1, k2, _⟩
    · rw [z2] at h2; cases h2
    rw [h2] at k1; cases k1; rw [h] at k2; cases k2; exact hc _ _ _ rfl
  · obtain ⟨b', ob', k1, k2, k3, _⟩ := c.obj n _ h1
    rw [h2] at k1; cases k1; rw [h] at k2; cases k2; exact ho x k3
theorem deferred_free {G : Ghost} {g : Mem} {w : World} (c : Core G g w) {b : Nat} {d : Option (List Deferred)} (h : w.heap[b]? = some (.deferred d)) : ¬ ∃ n, Own G g n b :=
  not_own c h (by intro x t f e; cases e) (by
    intro x h
    cases x with
    | map es => obtain ⟨_, e, _⟩ := h; cases e
    | iter m since seen =>
      cases m with
      | none => exact absurd (show Obj.deferred d = _ from h) (by intro e; cases e)
      | some m => obtain ⟨_, e, _⟩ := h; cases e
    | loop st tm ps a b => obtain ⟨_, e, _⟩ := h; cases e)
theorem Marks.ext {B : Nat} {ds : List Deferred} {G G' : Ghost} {g g' : Mem} {w w' : World} (h : Marks B ds w) (c : Core G g w) (x : Ext G g w G' g' w') : Marks B ds w' := by
  obtain ⟨h0, Ds, h1, h2, h3⟩ := h
  refine ⟨Nat.le_trans h0 x.size, Ds, h1, h2, fun D hD => ⟨(h3 D hD).1, ?_⟩⟩
  have hk := (h3 D hD).2
  rw [(x.keep D (heap_lt hk) (deferred_free c hk)).1]
  exact hk

def Post (B : Nat) (G : Ghost) (σ : Store) (w : World) (ex : XExit) (tm : List AVal) (τ : Store) : Exit → Act → World → Prop := fun e a' w' => ExRel ex e ∧ Marks B a'.defers w' ∧ ∃ G', Moved G σ w G' τ w' ∧ ARel G' tm a'.tmps

/-- Inside a round of a loop over a function: its record lies there. -/
def Rd (ro : Option Nat) (w : World) : Prop := ∀ l, ro = some l → ∃ r : Loop, w.heap[l]? = some (Obj.loop r)
theorem Rd.ext {ro : Option Nat} {G G' : Ghost} {g g' : Mem} {w w' : World} (h : Rd ro w) (x : Ext G g w G' g' w') : Rd ro w' := fun l hl => let ⟨r, hr⟩ := h l hl; x.loops l r hr
theorem Rd.none (w : World) : Rd none w := fun l h => by cases h
def CodeOk (ro : Option Nat) (P : Program) (cr : Code → XCode → Prop) (c : Code) (tm : List AVal) (σ : Store) (ex : XExit) (tm' : List AVal) (τ : Store) : Prop :=
  ∀ B G w a, G.cr = cr → Core G σ.get w → News G σ τ.next → ARel G tm a.tmps → Marks B a.defers w → Rd ro w → c.wpIn (Fr ro) 0 P (Post B G σ w ex tm' τ) a w

/-- The rest of a loop. -/
def InLoopWp (ro : Option Nat) (P : Program) (c : Code) (Q : Exit → Act → World → Prop) (a : Act) (w : World) : Prop :=
  ∀ (b : Frame) (k : List Item) (cs : List Frame), b.roundOf = (Fr ro).round → (Fr ro).fn b.fn → (Fr ro).room (cs.length + 1 + 0) → ∃ e a' w', Q e a' w' ∧ ArrivesIn (Machine.fenced P (Fr ro)) P (lone (b.atR a (.inLoop c :: k)) cs w) b k cs e a' w'
def LoopOk (ro : Option Nat) (P : Program) (cr : Code → XCode → Prop) (c : Code) (tm : List AVal) (σ : Store) (ex : XExit) (tm' : List AVal) (τ : Store) : Prop :=
  ∀ B G w a, G.cr = cr → Core G σ.get w → News G σ τ.next → ARel G tm a.tmps → Marks B a.defers w → Rd ro w → InLoopWp ro P c (Post B G σ w ex tm' τ) a w

theorem loop_body {ro : Option Nat} {P : Program} {c : Code} {Q : Exit → Act → World → Prop} {a : Act} {w : World} (h : c.wpIn (Fr ro) 0 P (Exit.then (InLoopWp ro P c Q) Q) a w) (b : Frame) (k : List Item) (cs : List Frame) (h1 : b.roundOf = (Fr ro).round) (h2 : (Fr ro).fn b.fn) (h3 : (Fr ro).room (cs.length + 1 + 0)) :
    ∃ e a' w', Q e a' w' ∧ ArrivesIn (Machine.fenced P (Fr ro)) P (lone (b.atR a (.code c :: .inLoop c :: k)) cs w) b k cs e a' w' := by
  obtain ⟨e, a₁, w₁, hq, harr⟩ := h b (.inLoop c :: k) cs h1 h2 h3
  cases e with
  | normal =>
    obtain ⟨e₂, a₂, w₂, hq₂, harr₂⟩ := hq b k cs h1 h2 h3
    exact ⟨e₂, a₂, w₂, hq₂, .of_steps harr harr₂⟩
  | exit id => exact ⟨_, a₁, w₁, hq, .pass (x := .inLoop c) rfl (fun _ _ => .inl (by simp)) harr⟩
  | goto l => exact ⟨_, a₁, w₁, hq, .pass (x := .inLoop c) rfl (fun _ _ => .inl (by simp)) harr⟩
  | ret => exact ⟨_, a₁, w₁, hq, .pass (x := .inLoop c) rfl (fun _ _ => .inl (by simp)) harr⟩
  | panic ch => exact ⟨_, a₁, w₁, hq, .pass (x := .inLoop c) rfl (fun _ _ => .inl (by simp)) harr⟩
  | outgrown => exact ⟨_, a₁, w₁, hq, .pass (x := .inLoop c) rfl (fun _ _ => .inl (by simp)) harr⟩
theorem inLoop_of {ro : Option Nat} {P : Program} {c : Code} {Q : Exit → Act → World → Prop} {a : Act} {w : World} (h : c.wpIn (Fr ro) 0 P (Exit.then (InLoopWp ro P c Q) Q) a w) : InLoopWp ro P c Q a w := fun b k cs h1 h2 h3 => by
  obtain ⟨e, a', w', g1, g2⟩ := loop_body h b k cs h1 h2 h3
  exact ⟨e, a', w', g1, .of_steps (.one (fenced_calm h2 h3 rfl) stepR_inLoop) g2⟩
theorem wp_loop_of {ro : Option Nat} {P : Program} {c : Code} {Q : Exit → Act → World → Prop} {a : Act} {w : World} (h : c.wpIn (Fr ro) 0 P (Exit.then (InLoopWp ro P c Q) Q) a w) : (Code.loop c).wpIn (Fr ro) 0 P Q a w := fun b k cs h1 h2 h3 => by
  obtain ⟨e, a', w', g1, g2⟩ := loop_body h b k cs h1 h2 h3
  exact ⟨e, a', w', g1, .of_steps (.one (fenced_calm h2 h3 rfl) stepR_loop) g2⟩

inductive OpsFit (P : Program) (nofz : List FuncId) (ops : Array Oper) : List Nat → List XOper → Prop
  | nil : OpsFit P nofz ops [] []
  | cons {i o x pre l xl} : ops[i]? = some o → xoper P nofz ops o pre = some x → OpsFit P nofz ops l xl → OpsFit P nofz ops (i :: l) (x :: xl)
def OpsOk (ro : Option Nat) (P : Program) (cr : Code → XCode → Prop) (ops : Array Oper) (l : List Nat) (tm : List AVal) (σ : Store) (tm' : List AVal) (τ : Store) : Prop :=
  ∀ G w a, G.cr = cr → Core G σ.get w → News G σ τ.next → ARel G tm a.tmps → ∀ Q : Exit → Act → World → Prop, (∀ G' a' w', Moved G σ w G' τ w' → ARel G' tm' a'.tmps → a'.defers = a.defers → Q .normal a' w') → wpOpsIn (Fr ro) 0 P ops Q l a w
def crOf (P : Program) (nofz : List FuncId) : Code → XCode → Prop := fun c x => xcodeOf P nofz c = some x

theorem opsFit_of {P : Program} {nofz : List FuncId} {ops : Array Oper} : ∀ (l : List Oper) (ps : List (List Nat)) (xs : List XOper) (k : Nat), (∀ i o, l[i]? = some o → ops[k + i]? = some o) → xopers P nofz ops l ps = some xs → OpsFit P nofz ops ((List.range l.length).map (k + ·)) xs
  | [], ps, xs, k, _, h => by simp only [xopers] at h; cases h; exact .nil
  | o :: l, ps, xs, k, hk, h => by
    simp only [xopers] at h
    split at h <;> try (cases h; done)
    rename_i x m h1 h2
    cases h
    have ih := opsFit_of l ps.tail m (k + 1) (fun i o' ho => by have := hk (i + 1) o' (by simpa using ho); rwa [show k + 1 + i = k + (i + 1) from by omega]) h2
    have e : (List.range (o :: l).length).map (k + ·) = k :: (List.range l.length).map (k + 1 + ·) := by
      rw [List.length_cons, List.range_succ_eq_map]
      simp only [List.map_cons, List.map_map, Nat.add_zero]
      congr 1
      apply List.map_congr_left
      intro j _
      simp; omega
    rw [e]
    exact .cons (hk 0 o (by simp)) h1 ih

structure AllOk (P : Program) (nofz : List FuncId) (X : FuncId → Option XFunc) (n : Nat) : Prop where
  code : ∀ ro c xc tm σ ex tm' τ, xcodeOf P nofz c = some xc → run X n (.code xc) tm σ = some (ex, tm', τ) → CodeOk ro P (crOf P nofz) c tm σ ex tm' τ
  loop : ∀ ro c xc tm σ ex tm' τ, xcodeOf P nofz c = some xc → run X n (.code (.loop xc)) tm σ = some (ex, tm', τ) → LoopOk ro P (crOf P nofz) c tm σ ex tm' τ
  ops : ∀ ro ops l xl tm σ ex tm' τ, OpsFit P nofz ops l xl → run X n (.ops xl) tm σ = some (ex, tm', τ) → ex = .normal ∧ OpsOk ro P (crOf P nofz) ops l tm σ tm' τ
  dops : ∀ l recs tm σ ex tm' τ, run X n (.dops l recs) tm σ = some (ex, tm', τ) → ex = .normal ∧ ∃ fs, Chain P (crOf P nofz) l recs tm σ fs tm' τ
  call : ∀ f args σ ex v τ, run X n (.call f) args σ = some (ex, [v], τ) → CallOk P (crOf P nofz) f args σ v τ
  callK : ∀ f args σ ex v τ, run X n (.callK f) args σ = some (ex, [v], τ) → CallOk P (crOf P nofz) f args σ v τ
  round : ∀ m args σ ex v τ, run X n (.round m) args σ = some (ex, [v], τ) → RoundOk P (crOf P nofz) m args σ v τ
  pure : ∀ f args σ ex v τ, freeL (stripL args) = true → run X n (.call f) args σ = some (ex, [v], τ) → PureOk P f args v ∧ τ = σ
  next : ∀ job tm σ ex tm' τ, run X n job tm σ = some (ex, tm', τ) → σ.next ≤ τ.next

theorem moved_drew {G G' : Ghost} {σ σ' : Store} {w w' : World} (h : Moved G σ w.drew G' σ' w') : Moved G σ w G' σ' w' := ⟨h.core, Ext.drewL h.ext, h.next, h.other⟩

theorem news_le {G : Ghost} {σ : Store} {a b : Nat} (h : News G σ b) (hab : a ≤ b) : News G σ a := fun m h1 h2 => h m h1 (by omega)
theorem news_moved {G G' : Ghost} {σ σ' : Store} {w w' : World} {b : Nat} (h : News G σ b) (m : Moved G σ w G' σ' w') : News G' σ' b := fun k h1 h2 => m.fresh k (.inr h1) (h k (by have := m.next; omega) h2)

theorem capsOf_rel {G : Ghost} {tm : List AVal} {a : Act} (hr : ARel G tm a.tmps) : ∀ (l : List XOper), ∃ vs : List Value, ARel G (capsOf tm l) vs.toArray
  | [] => ⟨[], ARel.nil G⟩
  | o :: l => by
    obtain ⟨vs, ih⟩ := capsOf_rel hr l
    have caps : ∀ cl : List XOpd, ∃ us : List Value, ARel G (cl.filterMap (capOne tm)) us.toArray := by
      intro cl
      induction cl with
      | nil => exact ⟨[], ARel.nil G⟩
      | cons x cl ih2 =>
        obtain ⟨us, h2⟩ := ih2
        cases x with
        | c v => exact ⟨us, h2⟩
        | t n =>
          have et : (XOpd.t n :: cl).filterMap (capOne tm) = tm.getD n aundef :: cl.filterMap (capOne tm) := rfl
          rw [et]
          refine ⟨a.tmps.getD n undef :: us, ⟨by have := h2.len; simpa using this, fun i y u e1 e2 => ?_⟩⟩
          cases i with
          | zero => simp at e1 e2; subst e1; subst e2; have := hr.getD n; simpa using this
          | succ i => exact h2.val i y u (by simpa using e1) (by simpa using e2)
    simp only [capsOf]
    split
    · rename_i f fst cl _
      obtain ⟨us, h2⟩ := caps cl
      exact ⟨us ++ vs, by have := h2.append ih; simpa using this⟩
    · exact ⟨vs, ih⟩

section
variable {P : Program} {nofz : List FuncId} {X : FuncId → Option XFunc}

theorem code_then {B : Nat} {G G' : Ghost} {σ σ1 : Store} {w w1 : World} {ex : XExit} {tm' : List AVal} {τ : Store} (m : Moved G σ w G' σ1 w1) : ∀ e a' w', Post B G' σ1 w1 ex tm' τ e a' w' → Post B G σ w ex tm' τ e a' w' :=
  fun e a' w' ⟨h1, h2, G2, h3, h4⟩ => ⟨h1, h2, G2, m.trans h3, h4⟩

/-- A new block that nothing names. -/
theorem core_junk {G : Ghost} {g : Mem} {w : World} (h : Core G g w) (ob : Obj) : Core G g (w.alloc ob) ∧ Ext G g w G g (w.alloc ob) := by
  have far : ∀ b, b < w.heap.size → (w.alloc ob).heap[b]? = w.heap[b]? := fun b hb => World.alloc_heap w ob hb
  refine ⟨⟨fun b o v hv => ?_, fun n o hn => (h.obj n o hn).keep (.refl G) (fun _ => rfl) fun b _ hb => ⟨far b hb, fun _ => rfl⟩, h.inj⟩, ⟨.refl G, rfl, rfl, rfl, by show w.heap.size ≤ (w.heap.push _).size; simp, loops_alloc w _, fun b hb hno => ⟨far b hb, fun _ => rfl, hno⟩⟩⟩
  have := h.imm b o v hv
  rw [← this]
  exact cell_congr (far b (cell_lt this))

/-- An object is forgotten, whatever becomes of it. -/
theorem core_drop {G : Ghost} {g g' : Mem} {w : World} (h : Core G g w) {n b : Nat} {x : OObj} (hg : g n = some (.oth x)) (hb : G.ρ n = some b) (hs : Sub g' g) (hn : g' n = none) (ob : Obj) :
    Core G g' { w with heap := w.heap.setIfInBounds b ob } := by
  obtain ⟨b', ob0, h1, h2, h3, h4⟩ := h.obj n _ hg
  rw [hb] at h1; cases h1
  have hfar : ∀ b', b' ≠ b → (w.heap.setIfInBounds b ob)[b']? = w.heap[b']? := fun b' hne => by rw [Array.getElem?_setIfInBounds_ne (Ne.symm hne)]
  have hown : Own G g n b := .inr (.inr ⟨x, hg, hb⟩)
  refine ⟨fun b' o v hv => ?_, fun m o hm => ?_, fun m m' b' o1 o2 => h.inj m m' b' (o1.sub hs) (o2.sub hs)⟩
  · have hne : b' ≠ b := by rintro rfl; rw [h4 o] at hv; cases hv
    exact (cell_congr (w := w) (hfar b' hne)).trans (h.imm b' o v hv)
  · have hmn : m ≠ n := by rintro rfl; rw [hn] at hm; cases hm
    have hm' := hs m o hm
    have hob := h.obj m o hm'
    cases o with
    | cells cs' =>
      obtain ⟨b2, c2, t2, k1, k2, k3, k4⟩ := hob
      have hne : b2 ≠ b := by rintro rfl; exact hmn (h.inj m n b2 (.inl ⟨cs', hm', k1⟩) hown)
      exact ⟨b2, c2, t2, k1, (hfar b2 hne).trans k2, k3, k4⟩
    | ro cs' => exact hob
    | gone => exact trivial
    | full k len => exact hob
    | tok te s len =>
      rcases hob with ⟨z1, z2⟩ | ⟨b2, cap, c2, k1, k2, k3, k4, k5, k6⟩
      · exact .inl ⟨z1, z2⟩
      have hne : b2 ≠ b := by rintro rfl; exact hmn (h.inj m n b2 (.inr (.inl ⟨te, s, len, cap, hm', k1⟩)) hown)
      exact .inr ⟨b2, cap, c2, k1, (hfar b2 hne).trans k2, k3, k4, k5, k6⟩
    | oth x' =>
      obtain ⟨b2, ob2, k1, k2, k3, k4⟩ := hob
      have hne : b2 ≠ b := by rintro rfl; exact hmn (h.inj m n b2 (.inr (.inr ⟨x', hm', k1⟩)) hown)
      exact ⟨b2, ob2, k1, (hfar b2 hne).trans k2, k3, k4⟩
theorem drop_get (σ : Store) (m k : Nat) : (σ.drop m).get k = if k = m then none else σ.get k := by
  unfold Store.drop Store.get
  rw [look_filter (p := fun n => !Nat.beq n m)]
  by_cases h : k = m
  · subst h; simp [Nat.beq_eq]
  · have : Nat.beq k m = false := by
      cases hb : Nat.beq k m with
      | false => rfl
      | true => exact absurd (Nat.eq_of_beq_eq_true hb) h
    simp [this, h]

/-- A loop over a function. -/
theorem range_ok {ro : Option Nat} {n : Nat} (ih : AllOk P nofz X n) {f : Operand} {ps : Array Tmp} {x y : Code} {xf : XOpd} {xx xy : XCode} {tm : List AVal} {σ τ : Store} {ex : XExit} {gf : FuncId} {first caps : List AVal} {v : AVal}
    (h0 : xopd f = some xf) (h1 : xcodeOf P nofz x = some xx) (h2 : xcodeOf P nofz y = some xy)
    (he : xf.eval tm = .fn gf first caps) {e1 : XExit} (hr : run X n (.call gf) (first ++ [.yld σ.next] ++ caps) (σ.new (.oth (.loop .ready tm ps.toList xx xy))) = some (e1, [v], τ)) (ho : rangeOut τ σ.next = some ex) :
    CodeOk ro P (crOf P nofz) (.rangeFunc f ps x y) tm σ ex tm (τ.drop σ.next) := by
  intro B G w a hG core news rel hd hrd
  have hτn : σ.next < τ.next := by have := ih.next _ _ _ _ _ _ hr; simp [Store.new] at this; omega
  obtain ⟨⟨fn0, n1, n2, n3⟩, hcall⟩ := ih.call _ _ _ _ _ _ hr
  have hv := (xopd_fit h0).rel rel
  rw [he] at hv
  generalize hu : a.eval f = u at hv
  cases hv with
  | fn _ _ _ fs cs hf hcs vf vc =>
  refine wpIn_rangeFunc ?_
  intro fn _
  have ent : ∃ (mark : List Deferred) (dfs : Nat) (W0 : World), (Instr.enterLoop fn a.tmps ps x y ro).run P w = .ok (W0.heap.size, mark) (W0.alloc (.loop { state := .ready, pending := none, fn, tmps := a.tmps, params := ps, assign := x, body := y, defers := dfs })) ∧
      Core G σ.get W0 ∧ Ext G σ.get w G σ.get W0 ∧ Marks B (mark ++ a.defers) W0 := by
    cases ro with
    | none =>
      obtain ⟨c0, x0⟩ := core_junk core (.deferred (some []))
      have hsz : (w.alloc (.deferred (some []))).heap.size = w.heap.size + 1 := by simp
      refine ⟨[{ target := .collected w.heap.size, args := #[] }], w.heap.size, w.alloc (.deferred (some [])), ?_, c0, x0, ?_⟩
      · rw [hsz]; exact run_enterLoop_outer (P := P) (w := w) fn a.tmps ps x y
      · obtain ⟨q0, Ds, q1, q2, q3⟩ := hd
        refine ⟨by rw [hsz]; omega, w.heap.size :: Ds, by rw [q1]; rfl, ?_, fun D hD => ?_⟩
        · refine List.nodup_cons.2 ⟨fun hm => ?_, q2⟩
          have := heap_lt (q3 _ hm).2
          omega
        · rcases List.mem_cons.1 hD with rfl | hD
          · exact ⟨q0, World.alloc_heap_new w _⟩
          · have h1 := (q3 D hD).2
            exact ⟨(q3 D hD).1, (World.alloc_heap w _ (heap_lt h1)).trans h1⟩
    | some l =>
      obtain ⟨r0, hr0⟩ := hrd l rfl
      refine ⟨[], r0.defers, w, ?_, core, .refl _ _ _, by simpa using hd⟩
      unfold Instr.enterLoop
      simp only [Sem.run_bind, run_newObj_alloc, Result.andThen, Sem.run_pure, run_getLoop hr0, World.size_alloc]
  obtain ⟨mark, dfs, W0, hent, c0, x0, hd0⟩ := ent
  obtain ⟨rec, hrec⟩ : ∃ rec : Loop, rec = { state := .ready, pending := none, fn, tmps := a.tmps, params := ps, assign := x, body := y, defers := dfs } := ⟨_, rfl⟩
  rw [← hrec] at hent
  have hrl : OthRel G (.loop .ready tm ps.toList xx xy) (.loop rec) := ⟨rec, rfl, by rw [hrec]; exact .ready, by rw [hrec]; exact rel, by rw [hrec], by rw [hrec, hG]; exact h1, by rw [hrec, hG]; exact h2⟩
  have hfr : Fresh G σ.get σ.next := news _ (Nat.le_refl _) hτn
  obtain ⟨G1, m1, r1⟩ := moved_newO c0 hfr hrl
  obtain ⟨W1, hW1⟩ : ∃ W1, W0.alloc (.loop rec) = W1 := ⟨_, rfl⟩
  rw [hW1] at m1
  have m0 : Moved G σ w G1 (σ.new (.oth (.loop .ready tm ps.toList xx xy))) W1 := ⟨m1.core, x0.trans m1.ext, m1.next, m1.other⟩
  have rel1 : ARel G1 (first ++ [.yld σ.next] ++ caps) (fs ++ #[.func (.yield (W0.heap.size)) #[] #[]] ++ cs) := by
    refine (ARel.append ?_ ?_).append ?_
    · exact (⟨hf, vf⟩ : ARel G first fs).mono m0.ext.le
    · exact ARel.single (.yld _ _ r1)
    · exact (⟨hcs, vc⟩ : ARel G caps cs).mono m0.ext.le
  have hG1 : G1.cr = crOf P nofz := m0.ext.le.cr.trans hG
  have n2' : ¬ fn0.name = "runtime.NumGoroutine" := by simpa using n2
  have n3' : ¬ fn0.body = none := by intro h; simp [h] at n3
  refine ⟨W0.heap.size, mark, W1, { target := .fn (.func gf) cs, args := fs ++ #[.func (.yield (W0.heap.size)) #[] #[]] }, W1, gf, fs ++ #[.func (.yield (W0.heap.size)) #[] #[]] ++ cs, W1, ?_, ?_, fun _ _ => trivial, ?_, fun h => by simp [Fr, Fence.wide] at h, ?_⟩
  · rw [← hW1]; exact hent
  · have hcst : a.eval (.const (.func (.yield (W0.heap.size)) #[] #[])) = .func (.yield (W0.heap.size)) #[] #[] := rfl
    simp [resolve, hu, Deferred.ofValue, hcst]
  · simp [invoke, callFunc, n1, n2', n3']
  · refine callsIn_fr ro (Calls.mono (hcall G1 W1 _ hG1 m0.core (news_moved news m0) rel1) ?_)
    rintro e w3 ⟨v', G', rfl, m2, hv'⟩
    unfold rangeOut at ho
    have key : ∀ (st : LSt) (tm' : List AVal) (ps' : List Nat) (a' b' : XCode), τ.get σ.next = some (.oth (.loop st tm' ps' a' b')) → ∃ r : Loop, w3.heap[W0.heap.size]? = some (.loop r) ∧ StRel st r.state r.pending ∧
        ∀ c e, (Post B G σ w e tm (τ.drop σ.next) c { a with defers := mark ++ a.defers } (w3.putObj (W0.heap.size) (.loop { r with state := .exhausted })) ↔ ExRel e c) := by
      intro st tm' ps' a' b' hg
      obtain ⟨b, ob, k1, k2, ⟨r, rfl, k3, _⟩, _⟩ := m2.core.obj _ _ hg
      have hb : b = W0.heap.size := by have := m2.ext.le.ρ r1; rw [k1] at this; exact Option.some.inj this
      subst hb
      refine ⟨r, k2, k3, fun c e => ⟨fun h => h.1, fun h => ⟨h, ?_, G', ?_, ?_⟩⟩⟩
      · obtain ⟨q0, Ds, q1, q2, q3⟩ := hd0
        have size3 : W0.heap.size ≤ w3.heap.size := Nat.le_trans m1.ext.size m2.ext.size
        refine ⟨by rw [World.putObj_size]; omega, Ds, q1, q2, fun D hD => ⟨(q3 D hD).1, ?_⟩⟩
        have h1 := (q3 D hD).2
        have hDlt := heap_lt h1
        have h1' : W1.heap[D]? = some (.deferred (some [])) := by rw [(m1.ext.keep D hDlt (deferred_free c0 h1)).1]; exact h1
        rw [World.putObj_heap_other (by omega), (m2.ext.keep D (heap_lt h1') (deferred_free m0.core h1')).1]
        exact h1'
      · have hdrop : Sub (τ.drop σ.next).get τ.get := fun k o hk => by
          rw [drop_get] at hk
          split at hk
          · cases hk
          · exact hk
        have mm := m0.trans m2
        refine ⟨core_drop m2.core hg k1 hdrop (by rw [drop_get, if_pos rfl]) _, ⟨mm.ext.le, mm.ext.os, mm.ext.tape, mm.ext.output, by rw [World.putObj_size]; exact mm.ext.size, fun b r hb => ?_, fun b hb hno => ?_⟩, mm.next, fun k hk hgk => ?_⟩
        · obtain ⟨r', hr'⟩ := mm.ext.loops b r hb
          by_cases eb : b = W0.heap.size
          · subst eb; exact ⟨_, World.putObj_heap_same (heap_lt hr')⟩
          · exact ⟨r', by rw [World.putObj_heap_other eb]; exact hr'⟩
        · obtain ⟨j1, j2, j3⟩ := mm.ext.keep b hb hno
          exact ⟨by rw [World.putObj_heap_other (by have := x0.size; omega)]; exact j1, j2, fun ⟨k, hk⟩ => j3 ⟨k, hk.sub hdrop⟩⟩
        · have s := mm.other k hk hgk
          refine ⟨s.ρ, s.H, ?_⟩
          cases hq : (τ.drop σ.next).get k with
          | none => rfl
          | some q => have := hdrop k q hq; rw [s.g] at this; cases this
      · exact (rel.mono m0.ext.le).mono m2.ext.le
    split at ho
    · rename_i tm' ps' a' b' hg
      cases ho
      obtain ⟨r, k2, k3, k4⟩ := key _ _ _ _ _ hg
      cases k3' : r.state with
      | ready =>
        have kp : r.pending = none := by rw [k3'] at k3; cases hp : r.pending with
          | none => rfl
          | some c => rw [hp] at k3; cases k3
        refine ⟨none, _, by have := run_endLoop (P := P) k2 (by rw [k3']; simp); rw [kp] at this; exact this, ?_⟩
        have q := (k4 .normal .normal).2 .normal
        rw [kp] at q
        exact q
      | busy => rw [k3'] at k3; cases k3
      | done => rw [k3'] at k3; cases k3
      | exhausted => rw [k3'] at k3; cases k3
    · rename_i e' tm' ps' a' b' hg
      cases ho
      obtain ⟨r, k2, k3, k4⟩ := key _ _ _ _ _ hg
      generalize hst : r.state = rs at k3
      generalize hpe : r.pending = rp at k3
      cases k3 with
      | ret =>
        refine ⟨some .ret, _, by have := run_endLoop (P := P) k2 (by rw [hst]; simp); rw [hpe] at this; exact this, ?_⟩
        have q := (k4 .ret .ret).2 .ret
        rw [hpe] at q
        exact wpIn_ret q
      | exit id =>
        refine ⟨some (.exit id), _, by have := run_endLoop (P := P) k2 (by rw [hst]; simp); rw [hpe] at this; exact this, ?_⟩
        have q := (k4 (.exit id) (.exit id)).2 (.exit id)
        rw [hpe] at q
        exact wpIn_exit q
    · cases ho

theorem step_code (hm : P.follows .mixedOrders = true) {n : Nat} (ih : AllOk P nofz X n) (ro : Option Nat) (c : Code) (xc : XCode) (tm : List AVal) (σ : Store) (ex : XExit) (tm' : List AVal) (τ : Store) (hc : xcodeOf P nofz c = some xc) (h : run X (n + 1) (.code xc) tm σ = some (ex, tm', τ)) : CodeOk ro P (crOf P nofz) c tm σ ex tm' τ := by
  intro B G w a hG core news rel hd hrd
  cases c with
  | skip =>
    simp only [xcodeOf] at hc; cases hc
    simp only [run] at h; cases h
    exact wpIn_skip ⟨.normal, hd, G, .refl core, rel⟩
  | region id ops draw =>
    simp only [xcodeOf] at hc
    cases draw with
    | false =>
      simp only [Bool.false_eq_true, if_false] at hc
      obtain ⟨xs, hx, rfl⟩ := map_some hc
      simp only [run] at h
      have hf := opsFit_of _ _ _ 0 (fun i o ho => by simpa using ho) hx
      have e : (List.range ops.toList.length).map (0 + ·) = List.range ops.size := by simp
      rw [e] at hf
      obtain ⟨rfl, hok⟩ := ih.ops ro _ _ _ _ _ _ _ _ hf h
      exact wpIn_region (hok G w a hG core news rel _ fun G' a' w' m r d => ⟨.normal, by rw [d]; exact hd.ext core m.ext, G', m, r⟩)
    | true =>
      simp only [if_true] at hc
      split at hc <;> try (cases hc; done)
      rename_i xs hx
      split at hc <;> try (cases hc; done)
      rename_i hst
      simp only [Bool.and_eq_true] at hst
      cases hc
      simp only [run] at h
      obtain ⟨rfl, fs, hch⟩ := ih.dops _ _ _ _ _ _ _ h
      have st := setting_of hx hst.1 hst.2 hch
      refine wpIn_region_any hm ?_
      obtain ⟨vs, hvs⟩ := capsOf_rel rel xs
      obtain ⟨G1, m1, _⟩ := xcaps_rel (w := w.drew) _ G σ vs core.drew hvs
      have news1 := news_moved news m1
      have inv : Inv P ops fs tm (xcaps σ (capsOf tm xs)).2 τ G1 w.drew a.defers (fun j => (Array.replicate ops.size false).getD j false) G1 a w.drew := by
        have hS : (fun j => (Array.replicate ops.size false).getD j false) = fun _ => false := by
          funext j
          by_cases hj : j < ops.size <;> simp [hj]
        rw [hS]
        have e1 : gS fs (xcaps σ (capsOf tm xs)).2 (fun _ => false) = (xcaps σ (capsOf tm xs)).2.get := by
          funext k
          unfold gS
          rw [lastV_none _ (Nat.zero_le _) (fun j _ _ _ => rfl)]; rfl
        have e2 : tmS fs tm (fun _ => false) = tm := by
          apply List.ext_getElem?
          intro t
          by_cases ht : t < tm.length
          · rw [tmS_get _ _ _ ht, lastV_none _ (Nat.zero_le _) (fun j _ _ _ => rfl)]
            simp [lastV, List.getD_eq_getElem?_getD, List.getElem?_eq_getElem ht]
          · rw [List.getElem?_eq_none (by rw [tmS_length]; omega), List.getElem?_eq_none (by omega)]
        refine ⟨by rw [e1]; exact m1.core, by rw [e2]; exact rel.mono m1.ext.le, rfl, by rw [e1]; exact .refl _ _ _, fun k _ hk => by rw [e1]; exact ⟨rfl, fun _ => rfl, hk⟩, fun i f hf _ k h1 h2 => ?_, fun _ _ _ h => by cases h⟩
        rw [e1]
        obtain ⟨b1, b2, b3⟩ := st.next i f hf
        exact news1 k (by omega) (by omega)
      refine any_ok (ro := ro) (m1.ext.le.cr.trans hG) st (fun G' a' w' iv => ?_) ops.size _ G1 a w.drew (by simp) (by simp) inv
      have e1 : gS fs (xcaps σ (capsOf tm xs)).2 (fun _ => true) = τ.get := by
        funext k; exact (st.last.σv k).symm
      have e2 : tmS fs tm (fun _ => true) = tm' := by
        apply List.ext_getElem?
        intro t
        by_cases ht : t < tm.length
        · rw [tmS_get _ _ _ ht, st.last.tmv t ht]
        · rw [List.getElem?_eq_none (by rw [tmS_length]; omega), List.getElem?_eq_none (by rw [st.last.len]; omega)]
      have m2 : Moved G1 (xcaps σ (capsOf tm xs)).2 w.drew G' τ w' := ⟨by rw [← e1]; exact iv.core, by rw [← e1]; exact iv.ext, st.next0, fun k hk hg => by rw [← e1]; exact iv.other k hk hg⟩
      have m3 := moved_drew (m1.trans m2)
      exact ⟨.normal, by rw [iv.defers]; exact hd.ext core m3.ext, G', m3, by rw [← e2]; exact iv.rel⟩
  | seq x y =>
    simp only [xcodeOf] at hc
    split at hc <;> try (cases hc; done)
    rename_i xx xy h1 h2
    cases hc
    simp only [run] at h
    refine wpIn_seq ?_
    cases hr : run X n (.code xx) tm σ with
    | none => rw [hr] at h; cases h
    | some r =>
      obtain ⟨ex1, tm1, σ1⟩ := r
      rw [hr] at h
      have key : ∀ hle : σ1.next ≤ τ.next, x.wpIn (Fr ro) 0 P (Post B G σ w ex1 tm1 σ1) a w := fun hle => ih.code ro _ _ _ _ _ _ _ h1 hr B G w a hG core (news_le news hle) rel hd hrd
      cases ex1 with
      | normal =>
        refine wpIn_mono (key (ih.next _ _ _ _ _ _ h)) ?_
        rintro e a1 w1 ⟨he, hd1, G1, m1, r1⟩
        cases he
        exact wpIn_mono (ih.code ro _ _ _ _ _ _ _ h2 h B G1 w1 a1 (m1.ext.le.cr.trans hG) m1.core (news_moved news m1) r1 hd1 (hrd.ext m1.ext)) (code_then m1)
      | exit id =>
        cases h
        refine wpIn_mono (key (Nat.le_refl _)) ?_
        rintro e a1 w1 hp
        have he := hp.1
        cases he
        exact hp
      | ret =>
        cases h
        refine wpIn_mono (key (Nat.le_refl _)) ?_
        rintro e a1 w1 hp
        have he := hp.1
        cases he
        exact hp
  | cond q x y =>
    simp only [xcodeOf] at hc
    split at hc <;> try (cases hc; done)
    rename_i xq xx xy h0 h1 h2
    cases hc
    simp only [run] at h
    have hv := (xopd_fit h0).rel rel
    split at h <;> try (cases h; done)
    · rename_i he
      rw [he] at hv
      generalize hb : a.eval q = b at hv
      cases hv
      exact wpIn_cond (t := true) hb (ih.code ro _ _ _ _ _ _ _ h1 h B G w a hG core news rel hd hrd)
    · rename_i he
      rw [he] at hv
      generalize hb : a.eval q = b at hv
      cases hv
      exact wpIn_cond (t := false) hb (ih.code ro _ _ _ _ _ _ _ h2 h B G w a hG core news rel hd hrd)
  | block id x =>
    simp only [xcodeOf] at hc
    obtain ⟨xx, h1, rfl⟩ := map_some hc
    simp only [run] at h
    refine wpIn_block ?_
    cases hr : run X n (.code xx) tm σ with
    | none => rw [hr] at h; cases h
    | some r =>
      obtain ⟨ex1, tm1, σ1⟩ := r
      rw [hr] at h
      have key : σ1 = τ → x.wpIn (Fr ro) 0 P (Post B G σ w ex1 tm1 σ1) a w := fun hs => ih.code ro _ _ _ _ _ _ _ h1 hr B G w a hG core (by rw [hs]; exact news) rel hd hrd
      cases ex1 with
      | normal =>
        cases h
        refine wpIn_mono (key rfl) ?_
        rintro e a1 w1 hp
        have he := hp.1
        cases he
        exact hp
      | ret =>
        cases h
        refine wpIn_mono (key rfl) ?_
        rintro e a1 w1 hp
        have he := hp.1
        cases he
        exact hp
      | exit id' =>
        simp only at h
        by_cases hid : id' = id
        · subst hid
          have hb : Nat.beq id' id' = true := by rw [Nat.beq_eq]
          rw [if_pos hb] at h
          cases h
          refine wpIn_mono (key rfl) ?_
          rintro e a1 w1 ⟨he, h3⟩
          cases he
          simp only [Exit.inBlock, if_true]
          exact ⟨.normal, h3⟩
        · have hb : ¬ Nat.beq id' id = true := by rw [Nat.beq_eq]; exact hid
          rw [if_neg hb] at h
          cases h
          refine wpIn_mono (key rfl) ?_
          rintro e a1 w1 hp
          have he := hp.1
          cases he
          simp only [Exit.inBlock, if_neg hid]
          exact hp
  | loop x =>
    simp only [xcodeOf] at hc
    obtain ⟨xx, h1, rfl⟩ := map_some hc
    simp only [run] at h
    refine wp_loop_of ?_
    cases hr : run X n (.code xx) tm σ with
    | none => rw [hr] at h; cases h
    | some r =>
      obtain ⟨ex1, tm1, σ1⟩ := r
      rw [hr] at h
      have key : ∀ hle : σ1.next ≤ τ.next, x.wpIn (Fr ro) 0 P (Post B G σ w ex1 tm1 σ1) a w := fun hle => ih.code ro _ _ _ _ _ _ _ h1 hr B G w a hG core (news_le news hle) rel hd hrd
      cases ex1 with
      | normal =>
        refine wpIn_mono (key (ih.next _ _ _ _ _ _ h)) ?_
        rintro e a1 w1 ⟨he, hd1, G1, m1, r1⟩
        cases he
        intro b k cs g1 g2 g3
        obtain ⟨e2, a2, w2, q1, q2⟩ := ih.loop ro _ _ _ _ _ _ _ h1 h B G1 w1 a1 (m1.ext.le.cr.trans hG) m1.core (news_moved news m1) r1 hd1 (hrd.ext m1.ext) b k cs g1 g2 g3
        exact ⟨e2, a2, w2, code_then m1 _ _ _ q1, q2⟩
      | exit id =>
        cases h
        refine wpIn_mono (key (Nat.le_refl _)) ?_
        rintro e a1 w1 hp
        have he := hp.1
        cases he
        exact hp
      | ret =>
        cases h
        refine wpIn_mono (key (Nat.le_refl _)) ?_
        rintro e a1 w1 hp
        have he := hp.1
        cases he
        exact hp
  | exit id =>
    simp only [xcodeOf] at hc; cases hc
    simp only [run] at h; cases h
    exact wpIn_exit ⟨.exit id, hd, G, .refl core, rel⟩
  | ret =>
    simp only [xcodeOf] at hc; cases hc
    simp only [run] at h; cases h
    exact wpIn_ret ⟨.ret, hd, G, .refl core, rel⟩
  | rangeFunc f ps x y =>
    simp only [xcodeOf] at hc
    split at hc <;> try (cases hc; done)
    rename_i xf xx xy h0 h1 h2
    cases hc
    simp only [run] at h
    split at h <;> try (cases h; done)
    rename_i gf first caps he
    split at h <;> try (cases h; done)
    rename_i e1 v τ1 hr
    split at h <;> try (cases h; done)
    rename_i e2 ho
    cases h
    exact range_ok ih h0 h1 h2 he hr ho B G w a hG core news rel hd hrd
  | _ => simp only [xcodeOf] at hc; cases hc; simp [run, XOpd.eval] at h

theorem step_loop' {n : Nat} (ih : AllOk P nofz X n) (ro : Option Nat) (c : Code) (xc : XCode) (tm : List AVal) (σ : Store) (ex : XExit) (tm' : List AVal) (τ : Store) (hc : xcodeOf P nofz c = some xc) (h : run X (n + 1) (.code (.loop xc)) tm σ = some (ex, tm', τ)) : LoopOk ro P (crOf P nofz) c tm σ ex tm' τ := by
  intro B G w a hG core news rel hd hrd
  simp only [run] at h
  refine inLoop_of ?_
  cases hr : run X n (.code xc) tm σ with
  | none => rw [hr] at h; cases h
  | some r =>
    obtain ⟨ex1, tm1, σ1⟩ := r
    rw [hr] at h
    have key : ∀ hle : σ1.next ≤ τ.next, c.wpIn (Fr ro) 0 P (Post B G σ w ex1 tm1 σ1) a w := fun hle => ih.code ro _ _ _ _ _ _ _ hc hr B G w a hG core (news_le news hle) rel hd hrd
    cases ex1 with
    | normal =>
      refine wpIn_mono (key (ih.next _ _ _ _ _ _ h)) ?_
      rintro e a1 w1 ⟨he, hd1, G1, m1, r1⟩
      cases he
      intro b k cs g1 g2 g3
      obtain ⟨e2, a2, w2, q1, q2⟩ := ih.loop ro _ _ _ _ _ _ _ hc h B G1 w1 a1 (m1.ext.le.cr.trans hG) m1.core (news_moved news m1) r1 hd1 (hrd.ext m1.ext) b k cs g1 g2 g3
      exact ⟨e2, a2, w2, code_then m1 _ _ _ q1, q2⟩
    | exit id =>
      cases h
      refine wpIn_mono (key (Nat.le_refl _)) ?_
      rintro e a1 w1 hp
      have he := hp.1
      cases he
      exact hp
    | ret =>
      cases h
      refine wpIn_mono (key (Nat.le_refl _)) ?_
      rintro e a1 w1 hp
      have he := hp.1
      cases he
      exact hp
end
end Go.Proofs.Ytgijgcmcpgepaaa.Eng
