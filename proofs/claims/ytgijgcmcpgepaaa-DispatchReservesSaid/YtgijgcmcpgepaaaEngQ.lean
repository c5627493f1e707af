/-
  ENGINE, Q: regions whose order is drawn: the theorem.
-/
import Derived.Test.YtgijgcmcpgepaaaEngO
namespace Go.Proofs.Ytgijgcmcpgepaaa.Eng
set_option linter.unusedSimpArgs false
set_option linter.unusedVariables false

def tmS (fs : List Inf) (tm0 : List AVal) (S : Nat → Bool) : List AVal := (List.range tm0.length).map fun t => lastV (Wt fs t) S (tm0.getD t aundef) fs.length
def gS (fs : List Inf) (σ0 : Store) (S : Nat → Bool) : Mem := fun n => lastV (Wn fs n) S (σ0.get n) fs.length

theorem tmS_get (fs : List Inf) (tm0 : List AVal) (S : Nat → Bool) {t : Nat} (h : t < tm0.length) : (tmS fs tm0 S)[t]? = some (lastV (Wt fs t) S (tm0.getD t aundef) fs.length) := by
  unfold tmS
  rw [List.getElem?_map, List.getElem?_range h]; rfl
theorem tmS_length (fs : List Inf) (tm0 : List AVal) (S : Nat → Bool) : (tmS fs tm0 S).length = tm0.length := by simp [tmS]

structure Inv (P : Program) (ops : Array Oper) (fs : List Inf) (tm0 : List AVal) (σ0 σ1 : Store) (G0 : Ghost) (w0 : World) (ds : List Deferred) (S : Nat → Bool) (G : Ghost) (a : Act) (w : World) : Prop where
  core : Core G (gS fs σ0 S) w
  rel : ARel G (tmS fs tm0 S) a.tmps
  defers : a.defers = ds
  ext : Ext G0 σ0.get w0 G (gS fs σ0 S) w
  other : ∀ n, (n < σ0.next ∨ σ1.next ≤ n) → σ0.get n = none → Same G0 G (gS fs σ0 S) n
  fresh : ∀ (i : Nat) (f : Inf), fs[i]? = some f → S i = false → ∀ n, f.σ.next ≤ n → n < f.τ.next → Fresh G (gS fs σ0 S) n
  closed : ∀ (j : Nat) (o : Oper), ops[j]? = some o → S j = true → ∀ e, e ∈ edgesOf o → S e = true

/-- The program's region, ready to be run in any order. -/
structure Setting (P : Program) (cr : Code → XCode → Prop) (nofz : List FuncId) (ops : Array Oper) (fs : List Inf) (tm0 tm1 : List AVal) (σ0 σ1 : Store) : Prop where
  len : fs.length = ops.size
  oper : ∀ (i : Nat) (o : Oper) (f : Inf), ops[i]? = some o → fs[i]? = some f → ∃ pre, xoper P nofz ops o pre = some f.x
  ok : ∀ (i : Nat) (f : Inf), fs[i]? = some f → InfOk P cr f
  canon : ∀ (i : Nat) (f : Inf), fs[i]? = some f → Canon fs tm0 σ0 i f.tm f.σ
  last : Canon fs tm0 σ0 fs.length tm1 σ1
  next : ∀ (i : Nat) (f : Inf), fs[i]? = some f → σ0.next ≤ f.σ.next ∧ f.σ.next ≤ f.τ.next ∧ f.τ.next ≤ σ1.next
  next2 : ∀ (i j : Nat) (f g : Inf), i < j → fs[i]? = some f → fs[j]? = some g → f.τ.next ≤ g.σ.next
  next0 : σ0.next ≤ σ1.next
  mem : ∀ (i j : Nat) (f g : Inf), i < j → fs[i]? = some f → fs[j]? = some g → i ∈ g.x.pre ∨ ((∀ n, n ∈ f.tch → n ∉ g.wr) ∧ (∀ n, n ∈ f.wr → n ∉ g.tch) ∧ (∀ n, n ∈ f.wr → n ∉ g.wr))
  tmp : ∀ (i j : Nat) (f g : Inf), i < j → fs[i]? = some f → fs[j]? = some g → i ∈ g.x.pre ∨ ((∀ d, f.x.dst = some d → d ∉ g.x.looks ∧ g.x.dst ≠ some d) ∧ (∀ d, g.x.dst = some d → d ∉ f.x.looks ∧ f.x.dst ≠ some d))
  edge : ∀ (i : Nat) (o : Oper), ops[i]? = some o → ∀ e, e ∈ edgesOf o → e < i
  pre : ∀ (i : Nat) (o : Oper) (f : Inf), ops[i]? = some o → fs[i]? = some f → ∀ k, k ∈ f.x.pre → k < i ∧ ∃ e, e ∈ edgesOf o ∧ (k = e ∨ ∃ g, fs[e]? = some g ∧ k ∈ g.x.pre)

section
variable {P : Program} {cr : Code → XCode → Prop} {ds : List Deferred} {ro : Option Nat} {nofz : List FuncId} {ops : Array Oper} {fs : List Inf} {tm0 tm1 : List AVal} {σ0 σ1 : Store} {G0 : Ghost} {w0 : World}

theorem pre_done (st : Setting P cr nofz ops fs tm0 tm1 σ0 σ1) {S : Nat → Bool} (hc : ∀ (j : Nat) (o : Oper), ops[j]? = some o → S j = true → ∀ e, e ∈ edgesOf o → S e = true) : ∀ (i : Nat) (o : Oper) (f : Inf), ops[i]? = some o → fs[i]? = some f → (∀ e, e ∈ edgesOf o → S e = true) → ∀ k, k ∈ f.x.pre → S k = true := by
  intro i
  induction i using Nat.strongRecOn with
  | _ i ih =>
    intro o f ho hf he k hk
    obtain ⟨_, e, h1, h2⟩ := st.pre i o f ho hf k hk
    rcases h2 with rfl | ⟨g, hg, hkg⟩
    · exact he k h1
    · have hlt := st.edge i o ho e h1
      have hle : e < ops.size := by rw [← st.len]; exact (List.getElem?_eq_some_iff.1 hg).1
      exact ih e hlt ops[e] g (Array.getElem?_eq_getElem hle) hg (hc e _ (Array.getElem?_eq_getElem hle) (he e h1)) k hkg

theorem wt_some {t j : Nat} (h : (Wt fs t j).isSome = true) : ∃ f, fs[j]? = some f ∧ f.x.dst = some t ∧ Wt fs t j = some f.v := by
  unfold Wt at h ⊢
  cases hf : fs[j]? with
  | none => simp [hf] at h
  | some f =>
    simp only [hf] at h ⊢
    by_cases hd : f.x.dst = some t
    · exact ⟨f, rfl, hd, if_pos hd⟩
    · rw [if_neg hd] at h; cases h
theorem wn_some {n j : Nat} (h : (Wn fs n j).isSome = true) : ∃ f, fs[j]? = some f ∧ n ∈ f.wr ∧ Wn fs n j = some (f.τ.get n) := by
  unfold Wn at h ⊢
  cases hf : fs[j]? with
  | none => simp [hf] at h
  | some f =>
    simp only [hf] at h ⊢
    by_cases hd : n ∈ f.wr
    · exact ⟨f, rfl, hd, if_pos hd⟩
    · rw [if_neg hd] at h; cases h

/-- Of those that come to one place, just those before it are done. -/
theorem done_iff (st : Setting P cr nofz ops fs tm0 tm1 σ0 σ1) {S : Nat → Bool} (hc : ∀ (j : Nat) (o : Oper), ops[j]? = some o → S j = true → ∀ e, e ∈ edgesOf o → S e = true) {i : Nat} {f : Inf} (hf : fs[i]? = some f) (hi : S i = false) (hp : ∀ k, k ∈ f.x.pre → S k = true) {j : Nat} {g : Inf} (hg : fs[j]? = some g)
    (hord : (j < i → j ∈ f.x.pre) ∧ (i < j → i ∈ g.x.pre)) : S j = decide (j < i) := by
  rcases Nat.lt_trichotomy j i with h | h | h
  · rw [hp j (hord.1 h)]; simp [h]
  · subst h; simp [hi]
  · have hlt : j < ops.size := by rw [← st.len]; exact (List.getElem?_eq_some_iff.1 hg).1
    have : S j = false := by
      cases hs : S j with
      | false => rfl
      | true =>
        have := pre_done st hc j ops[j] g (Array.getElem?_eq_getElem hlt) hg (hc j _ (Array.getElem?_eq_getElem hlt) hs) i (hord.2 h)
        rw [hi] at this; cases this
    rw [this]; simp; omega

theorem lt_canon {β : Type} {W : Nat → Option β} {b : β} {i N : Nat} (hi : i ≤ N) : lastV W (fun j => decide (j < i)) b N = lastV W (fun _ => true) b i := by
  rw [lastV_none N hi (fun j h1 _ _ => by simp; omega)]
  exact lastV_congr i (fun j hj _ => by simp [hj])

def addS (S : Nat → Bool) (i : Nat) : Nat → Bool := fun j => if j = i then true else S j

set_option maxHeartbeats 1000000 in
/-- One more operation is done. -/
theorem inv_step (hG0 : G0.cr = cr) (st : Setting P cr nofz ops fs tm0 tm1 σ0 σ1) {S : Nat → Bool} {G : Ghost} {a : Act} {w : World} (inv : Inv P ops fs tm0 σ0 σ1 G0 w0 ds S G a w) {i : Nat} {o : Oper} (ho : ops[i]? = some o) (hi : S i = false) (he : ∀ e, e ∈ edgesOf o → S e = true)
    {K : Act → World → Prop} {Q : Exit → Act → World → Prop} (hK : ∀ G' a' w', Inv P ops fs tm0 σ0 σ1 G0 w0 ds (addS S i) G' a' w' → K a' w') : wpOpIn (Fr ro) 0 P ops Q i K a w := by
  have hlt : i < ops.size := (Array.getElem?_eq_some_iff.1 ho).1
  have hltf : i < fs.length := by rw [st.len]; exact hlt
  obtain ⟨f, hf⟩ : ∃ f, fs[i]? = some f := ⟨_, List.getElem?_eq_getElem hltf⟩
  obtain ⟨pre, hx⟩ := st.oper i o f ho hf
  have hp := pre_done st inv.closed i o f ho hf he
  have cn := st.canon i f hf
  -- writers of temporaries
  have wT : ∀ t j, (t ∈ f.x.looks ∨ f.x.dst = some t) → (Wt fs t j).isSome = true → S j = decide (j < i) := by
    intro t j ht hw
    obtain ⟨g, hg, hd, _⟩ := wt_some hw
    refine done_iff st inv.closed hf hi hp hg ⟨fun h => ?_, fun h => ?_⟩
    · rcases st.tmp j i g f h hg hf with h1 | ⟨h1, _⟩
      · exact h1
      · rcases ht with ht | ht
        · exact absurd ht (h1 t hd).1
        · exact absurd ht (h1 t hd).2
    · rcases st.tmp i j f g h hf hg with h1 | ⟨_, h1⟩
      · exact h1
      · rcases ht with ht | ht
        · exact absurd ht (h1 t hd).1
        · exact absurd ht (h1 t hd).2
  have wN : ∀ n j, (n ∈ f.tch ∨ n ∈ f.wr) → (Wn fs n j).isSome = true → S j = decide (j < i) := by
    intro n j hn hw
    obtain ⟨g, hg, hd, _⟩ := wn_some hw
    refine done_iff st inv.closed hf hi hp hg ⟨fun h => ?_, fun h => ?_⟩
    · rcases st.mem j i g f h hg hf with h1 | ⟨_, h1, h2⟩
      · exact h1
      · rcases hn with hn | hn
        · exact absurd hn (h1 n hd)
        · exact absurd hn (h2 n hd)
    · rcases st.mem i j f g h hf hg with h1 | ⟨h1, _, h2⟩
      · exact h1
      · rcases hn with hn | hn
        · exact absurd hd (h1 n hn)
        · exact absurd hd (h2 n hn)
  have hlook : ∀ t, t ∈ f.x.looks → (tmS fs tm0 S)[t]? = f.tm[t]? := by
    intro t ht
    by_cases hlt : t < tm0.length
    · rw [tmS_get _ _ _ hlt, cn.tmv t hlt, lastV_congr _ (fun j _ hw => wT t j (.inl ht) hw), lt_canon (Nat.le_of_lt hltf)]
    · rw [List.getElem?_eq_none (by rw [tmS_length]; omega), List.getElem?_eq_none (by rw [cn.len]; omega)]
  have htch : ∀ n, n ∈ f.tch → gS fs σ0 S n = f.σ.get n := by
    intro n hn
    rw [cn.σv n]
    unfold gS
    rw [lastV_congr _ (fun j _ hw => wN n j (.inl hn) hw), lt_canon (Nat.le_of_lt hltf)]
  -- what is there behind it
  have hmem : gS fs σ0 (addS S i) = over (gS fs σ0 S) f.τ.get f.wr := by
    funext n
    unfold over gS
    by_cases hn : n ∈ f.wr
    · rw [if_pos hn]
      have hW : Wn fs n i = some (f.τ.get n) := by unfold Wn; simp only [hf]; rw [if_pos hn]
      refine lastV_insert hltf hW (fun j h1 h2 h3 => ?_) (by simp [addS])
      have := wN n j (.inr hn) h3
      simp only [addS, if_neg (show ¬ j = i from by omega), this]
      simp; omega
    · rw [if_neg hn]
      refine lastV_congr _ (fun j _ hw => ?_)
      by_cases hj : j = i
      · subst hj
        obtain ⟨g, hg, hd, _⟩ := wn_some hw
        rw [hf] at hg; cases hg
        exact absurd hd hn
      · simp [addS, hj]
  have htm : tmS fs tm0 (addS S i) = putT (tmS fs tm0 S) f.x.dst f.v := by
    apply List.ext_getElem?
    intro t
    by_cases hlt : t < tm0.length
    · rw [tmS_get _ _ _ hlt]
      by_cases hd : f.x.dst = some t
      · rw [hd]
        simp only [putT]
        rw [List.getElem?_set_self (by rw [tmS_length]; exact hlt)]
        congr 1
        have hW : Wt fs t i = some f.v := by unfold Wt; simp only [hf]; rw [if_pos hd]
        refine lastV_insert hltf hW (fun j h1 h2 h3 => ?_) (by simp [addS])
        have := wT t j (.inr hd) h3
        simp only [addS, if_neg (show ¬ j = i from by omega), this]
        simp; omega
      · have hsame : (putT (tmS fs tm0 S) f.x.dst f.v)[t]? = (tmS fs tm0 S)[t]? := by
          cases hdd : f.x.dst with
          | none => rfl
          | some d =>
            have hne : d ≠ t := fun e => hd (by rw [hdd, e])
            simp only [putT]
            rw [List.getElem?_set_ne hne]
        rw [hsame, tmS_get _ _ _ hlt]
        congr 1
        refine lastV_congr _ (fun j _ hw => ?_)
        by_cases hj : j = i
        · subst hj
          obtain ⟨g, hg, hd2, _⟩ := wt_some hw
          rw [hf] at hg; cases hg
          exact absurd hd2 hd
        · simp [addS, hj]
    · rw [List.getElem?_eq_none (by rw [tmS_length]; omega), List.getElem?_eq_none (by rw [putT_length, tmS_length]; omega)]
  obtain ⟨hdst, _, _⟩ := (wanted_rel hx inv.rel).2
  refine inf_does ho hx (st.ok i f hf) ro (inv.ext.le.cr.trans hG0) inv.core inv.rel hlook htch (inv.fresh i f hf hi) ?_
  intro v' w' G' hv hcore hext hoth
  refine hK G' _ w' ⟨by rw [hmem]; exact hcore, ?_, ?_, ?_, ?_, ?_, ?_⟩
  · rw [htm]
    have h1 := inv.rel.mono hext.le
    rw [hdst]
    cases hd : o.dst with
    | none => exact h1
    | some d => exact h1.set hv d
  · cases hd : o.dst <;> exact inv.defers
  · rw [hmem]; exact inv.ext.trans hext
  · intro n hn hg
    have s1 := inv.other n hn hg
    obtain ⟨b1, b2, b3⟩ := st.next i f hf
    have s2 := hoth n (by omega) s1.g
    rw [hmem]
    exact ⟨s2.ρ.trans s1.ρ, fun l => (s2.H l).trans (s1.H l), s2.g⟩
  · intro j g hg hj n h1 h2
    have hji : j ≠ i := fun e => by subst e; simp [addS] at hj
    have hj' : S j = false := by simpa [addS, hji] using hj
    have hfr := inv.fresh j g hg hj' n h1 h2
    have hout : n < f.σ.next ∨ f.τ.next ≤ n := by
      rcases Nat.lt_or_gt_of_ne hji with h | h
      · have := st.next2 j i g f h hg hf; omega
      · have := st.next2 i j f g h hf hg; omega
    have s2 := hoth n hout hfr.g
    rw [hmem]
    exact ⟨s2.ρ.trans hfr.ρ, fun l => (s2.H l).trans (hfr.H l), s2.g⟩
  · intro j oj hoj hj e hej
    simp only [addS] at hj ⊢
    by_cases hji : j = i
    · subst hji
      rw [ho] at hoj; cases hoj
      have := he e hej
      split <;> first | rfl | exact this
    · rw [if_neg hji] at hj
      have := inv.closed j oj hoj hj e hej
      split <;> first | rfl | exact this

theorem setIf_addS {listed : Array Bool} {i : Nat} (hi : i < listed.size) : (fun j => (listed.setIfInBounds i true).getD j false) = addS (fun j => listed.getD j false) i := by
  funext j
  unfold addS
  by_cases h : j = i
  · subst h; simp [hi]
  · rw [if_neg h]
    simp [Array.getElem?_setIfInBounds_ne (Ne.symm h)]

theorem count_set {listed : Array Bool} {i : Nat} (hi : i < listed.size) (h : listed.getD i false = false) : (listed.setIfInBounds i true).toList.count false + 1 = listed.toList.count false := by
  have hl : listed.toList[i]'(by simpa using hi) = false := by
    have : listed.getD i false = listed[i] := by simp [hi]
    rw [this] at h
    simpa using h
  rw [Array.toList_setIfInBounds]
  have := List.count_set (l := listed.toList) (i := i) (a := true) (b := false) (by simpa using hi)
  rw [this]
  have h0 : 0 < listed.toList.count false := List.count_pos_iff.2 (by rw [← hl]; exact List.getElem_mem _)
  have e1 : (listed.toList[i]'(by simpa using hi) == false) = true := by rw [hl]; rfl
  have e2 : ((true == false) = true) = False := by simp
  simp only [e1, e2, if_true, if_false]
  omega

/-- All orders. -/
theorem any_ok (hG0 : G0.cr = cr) (st : Setting P cr nofz ops fs tm0 tm1 σ0 σ1) {Q : Exit → Act → World → Prop} (hQ : ∀ G a w, Inv P ops fs tm0 σ0 σ1 G0 w0 ds (fun _ => true) G a w → Q .normal a w) :
    ∀ (fuel : Nat) (listed : Array Bool) (G : Ghost) (a : Act) (w : World), listed.size = ops.size → listed.toList.count false = fuel → Inv P ops fs tm0 σ0 σ1 G0 w0 ds (fun j => listed.getD j false) G a w → wpAnyIn (Fr ro) 0 P .any ops Q fuel listed a w := by
  -- where none is ready all are done
  have fin : ∀ (listed : Array Bool) (G : Ghost) (a : Act) (w : World), listed.size = ops.size → Inv P ops fs tm0 σ0 σ1 G0 w0 ds (fun j => listed.getD j false) G a w → Region.ready .any ops listed = [] → Q .normal a w := by
    intro listed G a w hsz inv hr
    have all : ∀ j, j < ops.size → listed.getD j false = true := by
      intro j
      induction j using Nat.strongRecOn with
      | _ j ih =>
        intro hj
        cases hl : listed.getD j false with
        | true => rfl
        | false =>
          have hmem : j ∈ Region.ready .any ops listed := by
            rw [mem_ready]
            refine ⟨?_, ops[j], Array.getElem?_eq_getElem hj, fun e he hb => ?_⟩
            · simp [hsz, hj] at hl ⊢; exact hl
            · have hedge : e.on ∈ edgesOf ops[j] := by
                unfold edgesOf
                rw [List.mem_filterMap]
                exact ⟨e, by simpa using he, by rw [if_pos hb]⟩
              have hlt := st.edge j ops[j] (Array.getElem?_eq_getElem hj) e.on hedge
              exact ih e.on hlt (by omega)
          rw [hr] at hmem; cases hmem
    refine hQ G a w ?_
    have e : ∀ j, j < fs.length → listed.getD j false = true := fun j hj => all j (by rw [← st.len]; exact hj)
    have e1 : gS fs σ0 (fun j => listed.getD j false) = gS fs σ0 (fun _ => true) := by
      funext n; exact lastV_congr _ (fun j hj _ => e j hj)
    have e2 : tmS fs tm0 (fun j => listed.getD j false) = tmS fs tm0 (fun _ => true) := by
      unfold tmS
      exact List.map_congr_left fun t _ => lastV_congr _ (fun j hj _ => e j hj)
    refine ⟨by rw [← e1]; exact inv.core, by rw [← e2]; exact inv.rel, inv.defers, by rw [← e1]; exact inv.ext, by rw [← e1]; exact inv.other, fun i f hf hi => by simp at hi, fun _ _ _ _ _ _ => rfl⟩
  intro fuel
  induction fuel with
  | zero =>
    intro listed G a w hsz hcount inv
    have hr : Region.ready .any ops listed = [] := by
      rw [List.eq_nil_iff_forall_not_mem]
      intro j hj
      obtain ⟨h0, o, ho, _⟩ := mem_ready.1 hj
      have hlt : j < listed.size := by rw [hsz]; exact (Array.getElem?_eq_some_iff.1 ho).1
      have : listed[j] = false := by simpa [hlt] using h0
      have hm : false ∈ listed.toList := by rw [← this]; simp
      exact absurd (List.count_pos_iff.2 hm) (by omega)
    exact ⟨hr, fin listed G a w hsz inv hr⟩
  | succ fuel ih =>
    intro listed G a w hsz hcount inv
    refine ⟨fun hr => fin listed G a w hsz inv hr, fun i hi => ?_⟩
    obtain ⟨h0, o, ho, hall⟩ := mem_ready.1 hi
    have hlt : i < listed.size := by rw [hsz]; exact (Array.getElem?_eq_some_iff.1 ho).1
    have hf0 : listed.getD i false = false := by simpa [hlt] using h0
    refine inv_step hG0 st inv ho hf0 (fun e he => ?_) (fun G' a' w' inv' => ?_)
    · unfold edgesOf at he
      rw [List.mem_filterMap] at he
      obtain ⟨ed, h1, h2⟩ := he
      split at h2 <;> try (cases h2; done)
      rename_i hb
      cases h2
      exact hall ed (by simpa using h1) hb
    · refine ih _ G' a' w' (by simp [hsz]) ?_ ?_
      · have := count_set hlt hf0; omega
      · rw [setIf_addS hlt]; exact inv'
end
end Go.Proofs.Ytgijgcmcpgepaaa.Eng
