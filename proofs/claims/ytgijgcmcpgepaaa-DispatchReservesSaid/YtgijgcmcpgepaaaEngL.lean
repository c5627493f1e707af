/-
  ENGINE, L: less memory, more memory; results of calls.
-/
import Derived.Test.YtgijgcmcpgepaaaEngK
namespace Go.Proofs.Ytgijgcmcpgepaaa.Eng
set_option linter.unusedSimpArgs false
set_option linter.unusedVariables false

def Sub (g' g : Mem) : Prop := ∀ n o, g' n = some o → g n = some o

theorem Own.sub {G : Ghost} {g' g : Mem} (h : Sub g' g) {n b : Nat} (ho : Own G g' n b) : Own G g n b := by
  rcases ho with ⟨cs, h1, h2⟩ | ⟨e, s, len, cap, h1, h2⟩ | ⟨x, h1, h2⟩
  · exact .inl ⟨cs, h _ _ h1, h2⟩
  · exact .inr (.inl ⟨e, s, len, cap, h _ _ h1, h2⟩)
  · exact .inr (.inr ⟨x, h _ _ h1, h2⟩)
theorem Core.sub {G : Ghost} {g' g : Mem} {w : World} (h : Sub g' g) (c : Core G g w) : Core G g' w :=
  ⟨c.imm, fun n o hn => c.obj n o (h n o hn), fun n m b h1 h2 => c.inj n m b (h1.sub h) (h2.sub h)⟩

theorem look_filterMap {g : Mem} : ∀ (l : List Nat) (k : Nat) (o : NObj), look (l.filterMap fun n => (g n).map fun o => (n, o)) k = some o → g k = some o
  | [], k, o, h => by simp [look] at h
  | n :: l, k, o, h => by
    simp only [List.filterMap_cons] at h
    cases hg : g n with
    | none => simp only [hg, Option.map_none] at h; exact look_filterMap l k o h
    | some p =>
      simp only [hg, Option.map_some, look] at h
      by_cases hk : n = k
      · subst hk
        simp only [Nat.beq_eq, if_true] at h
        rw [hg]; exact h
      · simp only [Nat.beq_eq, hk, if_false] at h
        exact look_filterMap l k o h
theorem look_filterMap_mem {g : Mem} : ∀ (l : List Nat) (k : Nat), k ∈ l → look (l.filterMap fun n => (g n).map fun o => (n, o)) k = g k
  | [], k, h => by cases h
  | n :: l, k, h => by
    simp only [List.filterMap_cons]
    by_cases hk : n = k
    · subst hk
      cases hg : g n with
      | none =>
        simp only [Option.map_none]
        cases hl : look (l.filterMap fun n => (g n).map fun o => (n, o)) n with
        | none => rfl
        | some o => rw [look_filterMap l n o hl] at hg; cases hg
      | some p => simp [look]
    · have hm : k ∈ l := by
        cases h with
        | head => exact absurd rfl hk
        | tail _ h => exact h
      cases hg : g n with
      | none => simp only [Option.map_none]; exact look_filterMap_mem l k hm
      | some p =>
        simp only [Option.map_some, look, Nat.beq_eq, hk, if_false]
        exact look_filterMap_mem l k hm
theorem only_sub (σ : Store) (l : List Nat) : Sub (σ.only l).get σ.get := fun n o h => look_filterMap l n o h
theorem only_mem {σ : Store} {l : List Nat} {n : Nat} (h : n ∈ l) : (σ.only l).get n = σ.get n := look_filterMap_mem l n h

theorem look_filterMap_in {g : Mem} : ∀ (l : List Nat) (k : Nat) (o : NObj), look (l.filterMap fun n => (g n).map fun o => (n, o)) k = some o → k ∈ l
  | [], k, o, h => by simp [look] at h
  | n :: l, k, o, h => by
    simp only [List.filterMap_cons] at h
    by_cases hk : n = k
    · exact hk ▸ List.mem_cons_self
    · cases hg : g n with
      | none => simp only [hg, Option.map_none] at h; exact List.mem_cons_of_mem _ (look_filterMap_in l k o h)
      | some p =>
        simp only [hg, Option.map_some, look, Nat.beq_eq, hk, if_false] at h
        exact List.mem_cons_of_mem _ (look_filterMap_in l k o h)
theorem only_in {σ : Store} {l : List Nat} {n : Nat} {o : NObj} (h : (σ.only l).get n = some o) : n ∈ l := look_filterMap_in l n o h

theorem isIn_iff {l : List Nat} {n : Nat} : isIn l n = true ↔ n ∈ l := by
  unfold isIn
  rw [List.any_eq_true]
  constructor
  · rintro ⟨x, h1, h2⟩; rw [Nat.beq_eq] at h2; subst h2; exact h1
  · intro h; exact ⟨n, h, by rw [Nat.beq_eq]⟩

theorem look_filter {p : Nat → Bool} : ∀ (l : List (Nat × NObj)) (k : Nat), look (l.filter fun q => p q.1) k = if p k then look l k else none
  | [], k => by simp [look]
  | (m, o) :: l, k => by
    have ih := look_filter (p := p) l k
    by_cases hm : p m = true
    · simp only [List.filter_cons, hm, if_true, look, Nat.beq_eq, ih]
      by_cases hk : m = k
      · subst hk; simp [hm]
      · simp [hk]
    · simp only [List.filter_cons, hm, look, Nat.beq_eq]
      by_cases hk : m = k
      · subst hk; simp [hm, ih]
      · simp [hk, ih]
theorem look_append : ∀ (l m : List (Nat × NObj)) (k : Nat), look (l ++ m) k = match look l k with | some o => some o | none => look m k
  | [], m, k => by simp [look]
  | (n, o) :: l, m, k => by
    have ih := look_append l m k
    simp only [List.cons_append, look, Nat.beq_eq, ih]
    by_cases hk : n = k <;> simp [hk]

/-- Memory, some names of it as another one has them. -/
def over (g t : Mem) (wr : List Nat) : Mem := fun n => if n ∈ wr then t n else g n
theorem merge_get (σ τ : Store) (wr : List Nat) : (σ.merge τ wr).get = over σ.get τ.get wr := by
  funext k
  unfold Store.merge Store.get over
  rw [look_append, look_filter (p := isIn wr), look_filter (p := fun n => !isIn wr n)]
  by_cases h : k ∈ wr
  · rw [if_pos h, if_pos (isIn_iff.2 h)]
    have : isIn wr k = true := isIn_iff.2 h
    simp only [this, Bool.not_true, Bool.false_eq_true, if_false]
    cases look τ.objs k <;> rfl
  · have : isIn wr k = false := by
      cases hb : isIn wr k with
      | true => exact absurd (isIn_iff.1 hb) h
      | false => rfl
    rw [if_neg h]
    simp [this]

theorem upTo_mem {a b n : Nat} : n ∈ upTo a b ↔ a ≤ n ∧ n < b := by
  unfold upTo
  simp only [List.mem_map, List.mem_range]
  constructor
  · rintro ⟨x, h, rfl⟩; omega
  · intro h; exact ⟨n - a, by omega, by omega⟩

/-- What was done with a part of memory was done with the whole. -/
theorem frame_moved {G G' : Ghost} {g : Mem} {σ τ : Store} {w w' : World} {tch wr : List Nat} (c : Core G g w) (hσ : ∀ n, n ∈ tch → g n = σ.get n) (hsub : ∀ n o, σ.get n = some o → n ∈ tch)
    (m : Moved G σ w G' τ w') (hwr : ∀ n, n ∈ wr ↔ (n ∈ tch ∧ n ∈ wr) ∨ (σ.next ≤ n ∧ n < τ.next)) (hsame : ∀ n, n ∈ tch → n ∉ wr → τ.get n = σ.get n) :
    Core G' (over g τ.get wr) w' ∧ Ext G g w G' (over g τ.get wr) w' ∧ (∀ n, (n < σ.next ∨ τ.next ≤ n) → g n = none → Same G G' (over g τ.get wr) n) := by
  have hsubm : Sub σ.get g := fun n o h => by rw [hσ n (hsub n o h)]; exact h
  have hown : ∀ {n b}, Own G σ.get n b → Own G g n b := fun h => h.sub hsubm
  -- names outside of the part
  have out : ∀ n, n ∉ tch → n ∉ wr → over g τ.get wr n = g n := fun n _ h => if_neg h
  have inn : ∀ n, n ∈ tch ∨ n ∈ wr → over g τ.get wr n = τ.get n := fun n h => by
    by_cases hw : n ∈ wr
    · exact if_pos hw
    · rcases h with h | h
      · unfold over; rw [if_neg hw, hσ n h, hsame n h hw]
      · exact absurd h hw
  have hσn : ∀ n, n ∉ tch → σ.get n = none := fun n hn => by
    cases h : σ.get n with
    | none => rfl
    | some o => exact absurd (hsub n o h) hn
  have bound : ∀ n, n ∉ wr → n ∉ tch → (n < σ.next ∨ τ.next ≤ n) := fun n h h' => by
    rcases Nat.lt_or_ge n σ.next with h1 | h1
    · exact .inl h1
    · rcases Nat.lt_or_ge n τ.next with h2 | h2
      · exact absurd ((hwr n).2 (.inr ⟨h1, h2⟩)) h
      · exact .inr h2
  have oth : ∀ n, n ∉ tch → n ∉ wr → Same G G' τ.get n := fun n h1 h2 => m.other n (bound n h2 h1) (hσn n h1)
  -- blocks of names outside stay
  have ownOut : ∀ n b, n ∉ tch → n ∉ wr → Own G' (over g τ.get wr) n b → Own G g n b := fun n b h1 h2 ho => by
    rcases ho with ⟨cs, e1, e2⟩ | ⟨te, s, len, cap, e1, e2⟩ | ⟨x, e1, e2⟩
    · rw [out n h1 h2] at e1; rw [(oth n h1 h2).ρ] at e2; exact .inl ⟨cs, e1, e2⟩
    · rw [out n h1 h2] at e1; rw [(oth n h1 h2).H] at e2; exact .inr (.inl ⟨te, s, len, cap, e1, e2⟩)
    · rw [out n h1 h2] at e1; rw [(oth n h1 h2).ρ] at e2; exact .inr (.inr ⟨x, e1, e2⟩)
  have ownIn : ∀ n b, (n ∈ tch ∨ n ∈ wr) → Own G' (over g τ.get wr) n b → Own G' τ.get n b := fun n b h ho => by
    rcases ho with ⟨cs, e1, e2⟩ | ⟨te, s, len, cap, e1, e2⟩ | ⟨x, e1, e2⟩
    · rw [inn n h] at e1; exact .inl ⟨cs, e1, e2⟩
    · rw [inn n h] at e1; exact .inr (.inl ⟨te, s, len, cap, e1, e2⟩)
    · rw [inn n h] at e1; exact .inr (.inr ⟨x, e1, e2⟩)
  have apart : ∀ n b, n ∉ tch → Own G g n b → ¬ ∃ k, Own G σ.get k b := fun n b hn ho ⟨k, hk⟩ => by
    have e := c.inj n k b ho (hown hk)
    subst e
    rcases hk with ⟨cs, e1, _⟩ | ⟨te, s, len, cap, e1, _⟩ | ⟨x, e1, _⟩ <;> exact hn (hsub _ _ e1)
  refine ⟨⟨m.core.imm, fun n o hn => ?_, fun n k b h1 h2 => ?_⟩, ⟨m.ext.le, m.ext.os, m.ext.tape, m.ext.output, m.ext.size, m.ext.loops, fun b hb hno => ?_⟩, fun n hn hgn => ?_⟩
  · by_cases hi : n ∈ tch ∨ n ∈ wr
    · rw [inn n hi] at hn; exact m.core.obj n o hn
    · have h1 : n ∉ tch := fun h => hi (.inl h)
      have h2 : n ∉ wr := fun h => hi (.inr h)
      rw [out n h1 h2] at hn
      have hob := c.obj n o hn
      have s := oth n h1 h2
      cases o with
      | cells cs =>
        obtain ⟨b, c', t, k1, k2, k3, k4⟩ := hob
        obtain ⟨j1, j2, _⟩ := m.ext.keep b (heap_lt k2) (apart n b h1 (.inl ⟨cs, hn, k1⟩))
        exact ⟨b, c', t, m.ext.le.ρ k1, j1.trans k2, k3.mono m.ext.le, fun o => (j2 o).trans (k4.1 o), fun tot e hh => k4.2 tot e ((s.H 0).symm.trans hh)⟩
      | ro cs =>
        obtain ⟨b, k1, k2⟩ := hob
        exact ⟨b, m.ext.le.ρ k1, fun j c hj => let ⟨v, a, r⟩ := k2 j c hj; ⟨v, m.ext.le.imm a, r.mono m.ext.le⟩⟩
      | gone => exact trivial
      | full k' len => exact let ⟨b, k1⟩ := hob; ⟨b, m.ext.le.H k1⟩
      | tok e s' len =>
        rcases hob with ⟨z1, z2⟩ | ⟨b, cap, c', k1, k2, k3, k4, k5, k6⟩
        · exact .inl ⟨z1, fun l => (s.H l).trans (z2 l)⟩
        obtain ⟨j1, j2, _⟩ := m.ext.keep b (heap_lt k2) (apart n b h1 (.inr (.inl ⟨e, s', len, cap, hn, k1⟩)))
        exact .inr ⟨b, cap, c', m.ext.le.H k1, j1.trans k2, k3, k4, fun o ho => (j2 o).trans (k5 o ho), fun l hl => (s.H l).trans (k6 l hl)⟩
      | oth x =>
        obtain ⟨b, ob, k1, k2, k3, k4⟩ := hob
        obtain ⟨j1, j2, _⟩ := m.ext.keep b (heap_lt k2) (apart n b h1 (.inr (.inr ⟨x, hn, k1⟩)))
        exact ⟨b, ob, m.ext.le.ρ k1, j1.trans k2, k3.mono m.ext.le, fun o => (j2 o).trans (k4 o)⟩
  · by_cases i1 : n ∈ tch ∨ n ∈ wr
    · by_cases i2 : k ∈ tch ∨ k ∈ wr
      · exact m.core.inj n k b (ownIn n b i1 h1) (ownIn k b i2 h2)
      · have o2 := ownOut k b (fun h => i2 (.inl h)) (fun h => i2 (.inr h)) h2
        obtain ⟨_, _, j3⟩ := m.ext.keep b (o2.lt c) (apart k b (fun h => i2 (.inl h)) o2)
        exact absurd ⟨n, ownIn n b i1 h1⟩ j3
    · have o1 := ownOut n b (fun h => i1 (.inl h)) (fun h => i1 (.inr h)) h1
      by_cases i2 : k ∈ tch ∨ k ∈ wr
      · obtain ⟨_, _, j3⟩ := m.ext.keep b (o1.lt c) (apart n b (fun h => i1 (.inl h)) o1)
        exact absurd ⟨k, ownIn k b i2 h2⟩ j3
      · exact c.inj n k b o1 (ownOut k b (fun h => i2 (.inl h)) (fun h => i2 (.inr h)) h2)
  · obtain ⟨j1, j2, j3⟩ := m.ext.keep b hb (fun ⟨k, hk⟩ => hno ⟨k, hown hk⟩)
    refine ⟨j1, j2, fun ⟨n, ho⟩ => ?_⟩
    by_cases i1 : n ∈ tch ∨ n ∈ wr
    · exact j3 ⟨n, ownIn n b i1 ho⟩
    · exact hno ⟨n, ownOut n b (fun h => i1 (.inl h)) (fun h => i1 (.inr h)) ho⟩
  · have hnt : σ.get n = none := by
      cases h : σ.get n with
      | none => rfl
      | some o => rw [hsubm n o h] at hgn; cases hgn
    have s := m.other n hn hnt
    refine ⟨s.ρ, s.H, ?_⟩
    by_cases hw : n ∈ wr
    · unfold over; rw [if_pos hw]; exact s.g
    · unfold over; rw [if_neg hw]; exact hgn

section
variable {P : Program} {G : Ghost} {σ : Store} {w : World} {tm : List AVal} {a : Act}

def resOne (tmps : Array Value) : ResultVar → Sem Value
  | .tmp t => pure (tmps.getD t undef)
  | .cell q t => do loadVar t (← asAddr (tmps.getD q undef))
theorem results_eq (fn : Func) (tmps : Array Value) : results fn tmps = (do
    let vs ← fn.results.mapM (resOne tmps)
    pure (if h : vs.size = 1 then vs[0] else .tuple vs)) := by
  unfold results
  congr 1

theorem xret_rel {r : ResultVar} {x : XRet} (hr : xretOf P r = some x) (c : Core G σ.get w) (h : ARel G tm a.tmps) {v : AVal} (hx : xret tm σ x = some v) :
    ∃ u, (resOne a.tmps r).run P w = .ok u w ∧ VRel G v u := by
  cases r with
  | tmp t =>
    simp only [xretOf] at hr; cases hr
    simp only [xret] at hx; cases hx
    exact ⟨_, rfl, h.getD t⟩
  | cell q t =>
    simp only [xretOf] at hr
    split at hr <;> try (cases hr; done)
    rename_i d i hd hi
    cases hr
    rw [isAggB_eq] at hx
    cases hb : TypeDesc.isAggB d
    · simp only [hb, Bool.false_eq_true, if_false, xret] at hx
      split at hx <;> try (cases hx; done)
      rename_i cs off hl
      obtain ⟨b, o', h1, h2⟩ := xload_cells c (h.getD q) hl
      obtain ⟨u, h3, h4⟩ := h2 off v hx
      refine ⟨u, ?_, h4⟩
      simp [resOne, h1, asAddr, loadVar, isAgg_run hd, hb, h3]
    · simp only [hb, if_true, xret] at hx
      split at hx <;> try (cases hx; done)
      rename_i cs off hl
      split at hx <;> try (cases hx; done)
      rename_i hn
      cases hx
      obtain ⟨b, o', h1, h2⟩ := xload_cells c (h.getD q) hl
      obtain ⟨u, h3, h4⟩ := load_rel (P := P) h2 hn
      refine ⟨.agg u, ?_, VRel.mk_agg h4⟩
      simp [resOne, h1, asAddr, loadVar, isAgg_run hd, hb, sizeOf_run hi, h3]

theorem xrets_rel (c : Core G σ.get w) (h : ARel G tm a.tmps) : ∀ (l : List ResultVar) (m : List XRet) (vs : List AVal), xretsOf P l = some m → xrets tm σ m = some vs →
    ∃ us : List Value, (l.mapM (resOne a.tmps)).run P w = .ok us w ∧ ARel G vs us.toArray
  | [], m, vs, h1, h2 => by
    simp only [xretsOf] at h1; cases h1
    simp only [xrets] at h2; cases h2
    exact ⟨[], by simp, ARel.nil G⟩
  | r :: l, m, vs, h1, h2 => by
    simp only [xretsOf] at h1
    split at h1 <;> try (cases h1; done)
    rename_i x m' k1 k2
    cases h1
    simp only [xrets] at h2
    split at h2 <;> try (cases h2; done)
    rename_i v hv
    split at h2 <;> try (cases h2; done)
    rename_i vs' hvs
    cases h2
    obtain ⟨u, e1, e2⟩ := xret_rel (P := P) k1 c h hv
    obtain ⟨us, e3, e4⟩ := xrets_rel c h l m' vs' k2 hvs
    refine ⟨u :: us, ?_, ⟨by have := e4.len; simpa using this, fun i y z h1 h2 => ?_⟩⟩
    · rw [List.mapM_cons, Sem.run_bind, e1]
      simp only [Result.andThen_ok, Sem.run_bind, e3, Sem.run_pure]
    · cases i with
      | zero => simp at h1 h2; subst h1; subst h2; exact e2
      | succ i => exact e4.val i y z (by simpa using h1) (by simpa using h2)

theorem results_rel {fn : Func} {m : List XRet} (hm : xretsOf P fn.results.toList = some m) (c : Core G σ.get w) (h : ARel G tm a.tmps) {v : AVal} (hx : xresult tm σ m = some v) : ∃ u, (results fn a.tmps).run P w = .ok u w ∧ VRel G v u := by
  unfold xresult at hx
  split at hx <;> try (cases hx; done)
  · rename_i v' hv
    cases hx
    obtain ⟨us, e1, e2⟩ := xrets_rel c h _ _ _ hm hv
    match us, e1, e2 with
    | [], _, e2 => have := e2.len; simp at this
    | [u], e1, e2 =>
      refine ⟨u, ?_, e2.val 0 v u (by simp) (by simp)⟩
      rw [results_eq, Array.mapM_eq_mapM_toList]
      simp [e1]
    | _ :: _ :: _, _, e2 => have := e2.len; simp at this
  · rename_i vs hne hv
    cases hx
    obtain ⟨us, e1, e2⟩ := xrets_rel c h _ _ _ hm hv
    have hl : us.length ≠ 1 := fun hl => by
      have := e2.len
      simp [hl] at this
      match vs, this with
      | [v], _ => exact hne v rfl
    refine ⟨.tuple us.toArray, ?_, VRel.mk_tup e2⟩
    rw [results_eq, Array.mapM_eq_mapM_toList]
    simp [e1, hl]
end
end Go.Proofs.Ytgijgcmcpgepaaa.Eng
