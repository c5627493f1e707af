/-
  ENGINE, D: what operations do, and that they fit: moving, reading, writing.
-/
import Derived.Test.YtgijgcmcpgepaaaEngC
import Derived.Laws.AppendOwn
namespace Go.Proofs.Ytgijgcmcpgepaaa.Eng
set_option linter.unusedSimpArgs false
set_option linter.unusedVariables false

/-- A name that nothing was done to. -/
structure Same (G G' : Ghost) (g' : Mem) (m : Nat) : Prop where
  ρ : G'.ρ m = G.ρ m
  H : ∀ l, G'.H m l = G.H m l
  g : g' m = none

structure Moved (G : Ghost) (σ : Store) (w : World) (G' : Ghost) (σ' : Store) (w' : World) : Prop where
  core : Core G' σ'.get w'
  ext : Ext G σ.get w G' σ'.get w'
  next : σ.next ≤ σ'.next
  other : ∀ m, (m < σ.next ∨ σ'.next ≤ m) → σ.get m = none → Same G G' σ'.get m

theorem Moved.fresh {G G' : Ghost} {σ σ' : Store} {w w' : World} (h : Moved G σ w G' σ' w') (m : Nat) (hm : m < σ.next ∨ σ'.next ≤ m) (hf : Fresh G σ.get m) : Fresh G' σ'.get m :=
  have k := h.other m hm hf.g
  ⟨k.ρ.trans hf.ρ, fun l => (k.H l).trans (hf.H l), k.g⟩

theorem Moved.refl {G : Ghost} {σ : Store} {w : World} (h : Core G σ.get w) : Moved G σ w G σ w := ⟨h, .refl _ _ _, Nat.le_refl _, fun _ _ h => ⟨rfl, fun _ => rfl, h⟩⟩
theorem Moved.trans {G G' G'' : Ghost} {σ σ' σ'' : Store} {w w' w'' : World} (h : Moved G σ w G' σ' w') (k : Moved G' σ' w' G'' σ'' w'') : Moved G σ w G'' σ'' w'' :=
  ⟨k.core, h.ext.trans k.ext, Nat.le_trans h.next k.next, fun m hm hf => by
    have h1 := h.next
    have h2 := k.next
    have a := h.other m (by omega) hf
    have b := k.other m (by omega) a.g
    exact ⟨b.ρ.trans a.ρ, fun l => (b.H l).trans (a.H l), b.g⟩⟩

/-- How an operation stands for another one. -/
inductive OFit : Operand → XOpd → Prop
  | t (n : Nat) : OFit (.tmp n) (.t n)
  | c (v : Value) (x : AVal) (h : ∀ G, VRel G x v) : OFit (.const v) (.c x)
  | f (k : FuncId) : OFit (.func k) (.c (.fn k [] []))

theorem OFit.rel {p : Operand} {x : XOpd} (h : OFit p x) {G : Ghost} {tm : List AVal} {a : Act} (hr : ARel G tm a.tmps) : VRel G (x.eval tm) (a.eval p) := by
  cases h with
  | t n => exact hr.getD n
  | c v x h => exact h G
  | f k => exact .fn k [] [] #[] #[] rfl rfl (fun i x v h => by simp at h) (fun i x v h => by simp at h)

inductive LFit : List Operand → List XOpd → Prop
  | nil : LFit [] []
  | cons {p x l m} : OFit p x → LFit l m → LFit (p :: l) (x :: m)

theorem LFit.rel {l : List Operand} {m : List XOpd} (h : LFit l m) {G : Ghost} {tm : List AVal} {a : Act} (hr : ARel G tm a.tmps) : ARel G (m.map (XOpd.eval tm)) (l.map a.eval).toArray := by
  induction h with
  | nil => exact ARel.nil G
  | cons h1 _ ih =>
    refine ⟨by have := ih.len; simpa using this, fun i x v e1 e2 => ?_⟩
    cases i with
    | zero => simp at e1 e2; subst e1; subst e2; exact h1.rel hr
    | succ i => simp at e1 e2; exact ih.val i x v (by simpa using e1) (by simpa using e2)

def OpOk (P : Program) (o : Oper) (a : Act) (G : Ghost) (σ : Store) (w : World) : XRes → Prop
  | .val v σ' => ∃ v' w' G', ((execOp a.eval o).run P w = .ok (.value v') w' ∨ ((execOp a.eval o).run P w = .ok .skip w' ∧ v' = undef)) ∧ VRel G' v v' ∧ Moved G σ w G' σ' w'
  | .enter f args => ∃ args', ARel G args args' ∧ ∀ fn, P.funcs[f]? = some fn → (fn.name == "runtime.NumGoroutine") = false → fn.body.isNone = false → (execOp a.eval o).run P w = .ok (.enter f args') w
  | .enterK f args => ∃ args', ARel G args args' ∧ ∀ fn, P.funcs[f]? = some fn → (fn.name == "runtime.NumGoroutine") = false → fn.body.isNone = false → (execOp a.eval o).run P w = .ok (.enter f args') w
  | .round n args => ∃ args' l, ARel G args args' ∧ G.ρ n = some l ∧ (execOp a.eval o).run P w = (Instr.yield l args').run P w

theorem OpOk.pure {P : Program} {o : Oper} {a : Act} {G : Ghost} {σ : Store} {w : World} {v : AVal} {v' : Value} (h : Core G σ.get w) (hr : (execOp a.eval o).run P w = .ok (.value v') w) (hv : VRel G v v') : OpOk P o a G σ w (.val v σ) :=
  ⟨v', w, G, .inl hr, hv, .refl h⟩

/-- The setting of an operation. -/
structure At (G : Ghost) (σ : Store) (w : World) (tm : List AVal) (a : Act) : Prop where
  core : Core G σ.get w
  rel : ARel G tm a.tmps
/-- The names that an operation will take. -/
def News (G : Ghost) (σ : Store) (nx : Nat) : Prop := ∀ m, σ.next ≤ m → m < nx → Fresh G σ.get m
def XRes.nx (σ : Store) : XRes → Nat
  | .val _ τ => τ.next
  | .enter .. => σ.next
  | .round .. => σ.next
  | .enterK .. => σ.next

section
variable {P : Program} {G : Ghost} {σ : Store} {w : World} {tm : List AVal} {a : Act}

theorem moved_new (h : Core G σ.get w) (hf : Fresh G σ.get σ.next) {cs : List AVal} {c : Array Value} (hr : ARel G cs c) (t : TypeId) :
    ∃ G', Moved G σ w G' (σ.new (.cells cs)) (w.alloc (.cells c t)) ∧ G'.ρ σ.next = some w.heap.size := by
  obtain ⟨h1, h2, h3⟩ := core_new h hf hr t
  refine ⟨G.withRho σ.next w.heap.size, ⟨by rw [Store.get_new]; exact h1, by rw [Store.get_new]; exact h2, Nat.le_succ _, fun m hm hfr => ⟨?_, fun _ => rfl, ?_⟩⟩, h3⟩
  · have hne : m ≠ σ.next := by simp [Store.new] at hm; omega
    simp [Ghost.withRho, hne]
  · have hne : σ.next ≠ m := by simp [Store.new] at hm; omega
    rw [Store.get_new, Mem.put_ne _ hne]; exact hfr

theorem run_pure_value (v : Value) (w : World) : (do pure (Next.value v) : Sem Next).run P w = .ok (.value v) w := rfl

/-- Reading through a pointer. -/
theorem xload_cells (h : Core G σ.get w) {x : AVal} {v : Value} (hv : VRel G x v) {cs : List AVal} {off : Nat} (hx : xload σ x = some (cs, off)) :
    ∃ b o, v = .pointer (some ⟨b, o + off, none⟩) ∧ ∀ (j : Nat) (c : AVal), cs[j]? = some c → ∃ u, w.cell? ⟨b, o + j, none⟩ = some u ∧ VRel G c u := by
  cases hv with
  | ptr n off' b hn =>
    simp only [xload] at hx
    split at hx <;> try (cases hx; done)
    · rename_i cs' hg; cases hx
      exact ⟨b, 0, by rw [Nat.zero_add], fun j c hj => by rw [Nat.zero_add]; exact core_get h hg hn hj⟩
    · rename_i cs' hg; cases hx
      exact ⟨b, 0, by rw [Nat.zero_add], fun j c hj => by rw [Nat.zero_add]; exact core_ro h hg hn hj⟩
  | iptr cs' off' b o f hI hv =>
    simp only [xload] at hx; cases hx
    exact ⟨b, o, rfl, fun j c hj => ⟨f j, h.imm _ _ _ (hI j c hj), hv j c hj⟩⟩
  | _ => simp [xload] at hx

theorem addr_add (b o n : Nat) : (⟨b, o, none⟩ : Addr).add n = ⟨b, o + n, none⟩ := by
  unfold Addr.add
  by_cases h : n = 0
  · subst h; simp
  · simp [h]

/-- Some cells are read. -/
theorem load_rel {cs : List AVal} {b o off n : Nat} (hc : ∀ (j : Nat) (c : AVal), cs[j]? = some c → ∃ u, w.cell? ⟨b, o + j, none⟩ = some u ∧ VRel G c u) (hn : off + n ≤ cs.length) :
    ∃ c, (loadCells ⟨b, o + off, none⟩ n).run P w = .ok c w ∧ ARel G ((cs.drop off).take n) c := by
  let f : Nat → Value := fun j => (w.cell? ⟨b, o + (off + j), none⟩).getD undef
  have key : ∀ j, j < n → ∃ c, cs[off + j]? = some c ∧ w.cell? ⟨b, o + (off + j), none⟩ = some (f j) ∧ VRel G c (f j) := fun j hj => by
    obtain ⟨u, h1, h2⟩ := hc (off + j) cs[off + j] (List.getElem?_eq_getElem (by omega))
    have e : f j = u := by simp [f, h1]
    exact ⟨_, List.getElem?_eq_getElem (by omega), by rw [e]; exact h1, by rw [e]; exact h2⟩
  refine ⟨_, run_loadCells w ⟨b, o + off, none⟩ n f (fun j hj => ?_), ⟨by simp; omega, fun i x v h1 h2 => ?_⟩⟩
  · obtain ⟨c, _, h2, _⟩ := key j hj
    rw [addr_add, Nat.add_assoc]; exact h2
  · have hi : i < n := by
      have := (List.getElem?_eq_some_iff.1 h1).1
      simp at this; omega
    obtain ⟨c, k1, _, k3⟩ := key i hi
    rw [List.getElem?_take_of_lt hi, List.getElem?_drop, k1] at h1
    cases h1
    have : ((List.range n).map f).toArray[i]? = some (f i) := by simp [hi]
    rw [this] at h2; cases h2
    exact k3

theorem isAgg_true {t : TypeId} {d : TypeDesc} (h : P.underlying t = some d) (hd : (∃ fs, d = .struct fs) ∨ (∃ n e, d = .array n e)) (w : World) : (isAgg t).run P w = .ok true w := by
  rcases hd with ⟨fs, rfl⟩ | ⟨n, e, rfl⟩ <;> simp [isAgg, run_underlying h]
theorem isAgg_false {t : TypeId} {d : TypeDesc} (h : P.underlying t = some d) (hd : (match d with | .struct _ | .array .. => true | _ => false) = false) (w : World) : (isAgg t).run P w = .ok false w := by
  cases d <;> first | (simp at hd; done) | simp [isAgg, run_underlying h]
theorem sizeOf_run {t : TypeId} {i : TypeInfo} (h : P.info? t = some i) (w : World) : (sizeOf t).run P w = .ok i.size w := by
  simp [sizeOf, typeInfo, h]
theorem zero_run {t : TypeId} {i : TypeInfo} {z : Value} (h : P.info? t = some i) (hz : i.zero = some z) (w : World) : (zeroValue t).run P w = .ok z w := by
  simp [zeroValue, typeInfo, h, hz]

def TypeDesc.isAggB : TypeDesc → Bool
  | .struct _ | .array .. => true
  | _ => false
theorem isAgg_run {t : TypeId} {d : TypeDesc} (h : P.underlying t = some d) (w : World) : (isAgg t).run P w = .ok (TypeDesc.isAggB d) w := by
  cases d <;> simp [isAgg, run_underlying h, TypeDesc.isAggB]

theorem ok_load1 (c : At G σ w tm a) {o : Oper} {p : Operand} {x : XOpd} {t : TypeId} {d : TypeDesc} (ho : o.op = .load t p) (hp : OFit p x) (ht : P.underlying t = some d) (hd : TypeDesc.isAggB d = false) {r : XRes} (hx : xop (.load1 x) tm σ = some r) : OpOk P o a G σ w r := by
  simp only [xop] at hx
  split at hx <;> try (cases hx; done)
  rename_i cs off hl
  split at hx <;> try (cases hx; done)
  rename_i v hv
  cases hx
  obtain ⟨b, o', h1, h2⟩ := xload_cells c.core (hp.rel c.rel) hl
  obtain ⟨u, h3, h4⟩ := h2 off v hv
  refine OpOk.pure c.core (v' := u) ?_ h4
  simp [execOp, ho, h1, Instr.loadAt, Instr.sureAddr, loadVar, isAgg_run ht, hd, h3]

theorem ok_loadn (c : At G σ w tm a) {o : Oper} {p : Operand} {x : XOpd} {t : TypeId} {d : TypeDesc} {i : TypeInfo} (ho : o.op = .load t p) (hp : OFit p x) (ht : P.underlying t = some d) (hd : TypeDesc.isAggB d = true) (hi : P.info? t = some i) {r : XRes} (hx : xop (.loadn i.size x) tm σ = some r) : OpOk P o a G σ w r := by
  simp only [xop] at hx
  split at hx <;> try (cases hx; done)
  rename_i cs off hl
  split at hx <;> try (cases hx; done)
  rename_i hn
  cases hx
  obtain ⟨b, o', h1, h2⟩ := xload_cells c.core (hp.rel c.rel) hl
  obtain ⟨u, h3, h4⟩ := load_rel (P := P) h2 hn
  refine OpOk.pure c.core (v' := .agg u) ?_ (VRel.mk_agg h4)
  simp [execOp, ho, h1, Instr.loadAt, Instr.sureAddr, loadVar, isAgg_run ht, hd, sizeOf_run hi, h3]

theorem ok_mov (c : At G σ w tm a) {o : Oper} {p : Operand} {x : XOpd} (ho : o.op = .move p ∨ o.op = .assign p) (hp : OFit p x) {r : XRes} (hx : xop (.mov x) tm σ = some r) : OpOk P o a G σ w r := by
  simp only [xop] at hx; cases hx
  refine OpOk.pure c.core (v' := a.eval p) ?_ (hp.rel c.rel)
  rcases ho with ho | ho <;> simp [execOp, ho]

theorem ok_pick (c : At G σ w tm a) {o : Oper} {p q r' : Operand} {x y z : XOpd} (ho : o.op = .pick p q r') (hp : OFit p x) (hq : OFit q y) (hr : OFit r' z) {r : XRes} (hx : xop (.pick x y z) tm σ = some r) : OpOk P o a G σ w r := by
  have h1 := hp.rel c.rel
  simp only [xop] at hx
  split at hx <;> try (cases hx; done)
  all_goals
    rename_i he
    rw [he] at h1
    cases hx
    generalize hb : a.eval p = b at h1
    cases h1
  · exact OpOk.pure c.core (v' := a.eval q) (by simp [execOp, ho, hb, asBool]) (hq.rel c.rel)
  · exact OpOk.pure c.core (v' := a.eval r') (by simp [execOp, ho, hb, asBool]) (hr.rel c.rel)

theorem ok_new (c : At G σ w tm a) {o : Oper} {e : TypeId} {i : TypeInfo} {z : Value} {cs : List AVal} (ho : o.op = .alloc e) (hi : P.info? e = some i) (hz : i.zero = some z) (hzr : ∀ G, ARel G cs z.cells) {r : XRes} (hx : xop (.new e cs) tm σ = some r) (hn : News G σ (r.nx σ)) : OpOk P o a G σ w r := by
  simp only [xop] at hx; cases hx
  obtain ⟨G', hm, hr⟩ := moved_new c.core (hn _ (Nat.le_refl _) (Nat.lt_succ_self _)) (hzr G) e
  refine ⟨.pointer (some ⟨w.heap.size, 0, none⟩), w.alloc (.cells z.cells e), G', .inl ?_, .ptr _ _ _ hr, hm⟩
  simp [execOp, ho, Instr.alloc, zero_run hi hz, newVar, newRow]

theorem ok_box (c : At G σ w tm a) {o : Oper} {e : TypeId} {p : Operand} {x : XOpd} (ho : o.op = .box e p) (hp : OFit p x) {r : XRes} (hx : xop (.box e x) tm σ = some r) (hn : News G σ (r.nx σ)) : OpOk P o a G σ w r := by
  simp only [xop] at hx; cases hx
  obtain ⟨G', hm, hr⟩ := moved_new c.core (hn _ (Nat.le_refl _) (Nat.lt_succ_self _)) (hp.rel c.rel).cells e
  refine ⟨.pointer (some ⟨w.heap.size, 0, none⟩), w.alloc (.cells (a.eval p).cells e), G', .inl ?_, .ptr _ _ _ hr, hm⟩
  simp [execOp, ho, Instr.box, newVar, newRow]

theorem one_rel {x : AVal} {v : Value} (h : VRel G x v) (hx : x.one = true) : v.oneCell' = true := by
  cases h <;> first | rfl | (simp [AVal.one] at hx)

/-- Cells are written. -/
theorem store_rel {m b : Nat} (hb : G.ρ m = some b) : ∀ (l : List AVal) (vs : List Value) (i : Nat) (cs : List AVal) (σ : Store) (w : World), Core G σ.get w → σ.get m = some (.cells cs) → ARel G l vs.toArray → l.all AVal.one = true → i + l.length ≤ cs.length → ∀ o, o ≤ i →
    ∃ w', (storeCells ⟨b, o, none⟩ vs (i - o)).run P w = .ok () w' ∧ Moved G σ w G (σ.put m (.cells (setR cs i l))) w' := by
  intro l
  induction l with
  | nil =>
    intro vs i cs σ w hc hg hr _ _ o ho
    have : vs = [] := by have := hr.len; simp at this; exact List.eq_nil_of_length_eq_zero this.symm
    subst this
    have e : (σ.put m (.cells cs)).get = σ.get := by
      rw [Store.get_put]; funext k; unfold Mem.put; split
      · rename_i h; rw [← h]; exact hg.symm
      · rfl
    refine ⟨w, rfl, ⟨by simp only [setR]; rw [e]; exact hc, by simp only [setR]; rw [e]; exact .refl _ _ _, Nat.le_refl _, fun k _ hf => ⟨rfl, fun _ => rfl, by simp only [setR]; rw [e]; exact hf⟩⟩⟩
  | cons x l ih =>
    intro vs i cs σ w hc hg hr h1 hl o ho
    match vs, hr with
    | [], hr => have := hr.len; simp at this
    | v :: vs, hr =>
      simp only [List.all_cons, Bool.and_eq_true] at h1
      have hv : VRel G x v := hr.val 0 x v (by simp) (by simp)
      have hr' : ARel G l vs.toArray := ⟨by have := hr.len; simpa using this, fun j y u e1 e2 => hr.val (j + 1) y u (by simpa using e1) (by simpa using e2)⟩
      simp at hl
      obtain ⟨k1, k2, ⟨u, k3⟩, k4⟩ := core_set hc hg hb hv i (by omega)
      have hm1 : Moved G σ w G (σ.put m (.cells (cs.set i x))) (w.setCell ⟨b, i, none⟩ v) := by
        refine ⟨by rw [Store.get_put]; exact k1, by rw [Store.get_put]; exact k2, Nat.le_refl _, fun k _ hf => ⟨rfl, fun _ => rfl, ?_⟩⟩
        have hne : m ≠ k := by rintro rfl; rw [hf] at hg; cases hg
        rw [Store.get_put, Mem.put_ne _ hne]; exact hf
      obtain ⟨w', e1, e2⟩ := ih vs (i + 1) (cs.set i x) (σ.put m (.cells (cs.set i x))) (w.setCell ⟨b, i, none⟩ v) hm1.core (by rw [Store.get_put]; exact Mem.put_self _ _ _) hr' h1.2 (by simp; omega) o (by omega)
      have e3 : ((σ.put m (.cells (cs.set i x))).put m (.cells (setR (cs.set i x) (i + 1) l))).get = (σ.put m (.cells (setR cs i (x :: l)))).get := by
        rw [Store.get_put, Store.get_put, Store.get_put]; funext k; unfold Mem.put; simp only [setR]; split <;> rfl
      have hm2 : Moved G σ w G (σ.put m (.cells (setR cs i (x :: l)))) w' := by
        have hh := hm1.trans e2
        refine ⟨by rw [← e3]; exact hh.core, by rw [← e3]; exact hh.ext, hh.next, fun k hk hf => by rw [← e3]; exact hh.other k hk hf⟩
      refine ⟨w', ?_, hm2⟩
      have hst : (store ((⟨b, o, none⟩ : Addr).add (i - o)) v).run P w = .ok () (w.setCell ⟨b, i, none⟩ v) := by
        rw [addr_add, show o + (i - o) = i from by omega, run_store P w _ v _ (one_rel hv h1.1), k3]
        simp [k4]
      rw [show i + 1 - o = i - o + 1 from by omega] at e1
      simp only [storeCells, Sem.run_bind, hst, Result.andThen_ok]
      exact e1

theorem ok_store (c : At G σ w tm a) {o : Oper} {p q : Operand} {x y : XOpd} {t : TypeId} {i : TypeInfo} (ho : o.op = .store t p q) (hp : OFit p x) (hq : OFit q y) (hi : P.info? t = some i) {r : XRes} (hx : xop (.store i.size x y) tm σ = some r) : OpOk P o a G σ w r := by
  have h1 := hp.rel c.rel
  have h2 := (hq.rel c.rel).cells
  simp only [xop] at hx
  split at hx <;> try (cases hx; done)
  rename_i m off he
  split at hx <;> try (cases hx; done)
  rename_i cs hg
  split at hx <;> try (cases hx; done)
  rename_i hcond
  obtain ⟨hl, hone, hle⟩ := hcond
  cases hx
  rw [he] at h1
  generalize hb : a.eval p = b at h1
  cases h1 with
  | ptr n off b hn =>
    obtain ⟨w', e1, e2⟩ := store_rel (P := P) hn (y.eval tm).cells (a.eval q).cells.toList off cs σ w c.core hg (by simpa using h2) hone (by rw [hl]; exact hle) off (Nat.le_refl _)
    refine ⟨undef, w', G, .inr ⟨?_, rfl⟩, undef_rel G, e2⟩
    have hsz : (a.eval q).cells.size = i.size := by rw [← h2.len, hl]
    rw [Nat.sub_self] at e1
    simp [execOp, ho, hb, Instr.storeAt, Instr.sureAddr, storeVar, sizeOf_run hi, hsz, e1]

theorem ok_nilchk (c : At G σ w tm a) {o : Oper} {p : Operand} {x : XOpd} (ho : o.op = .nilCheck p) (hp : OFit p x) {r : XRes} (hx : xop (.nilchk x) tm σ = some r) : OpOk P o a G σ w r := by
  have h1 := hp.rel c.rel
  simp only [xop] at hx
  split at hx <;> try (cases hx; done)
  all_goals
    rename_i he
    rw [he] at h1
    cases hx
    generalize hb : a.eval p = b at h1
    refine OpOk.pure c.core (v' := b) ?_ h1
    cases h1
    simp [execOp, ho, hb]
end
end Go.Proofs.Ytgijgcmcpgepaaa.Eng
