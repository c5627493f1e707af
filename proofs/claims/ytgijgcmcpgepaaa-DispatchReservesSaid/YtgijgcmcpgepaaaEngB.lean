/-
  ENGINE, B: named memory, and what it stands for.
-/
import Derived.Test.YtgijgcmcpgepaaaEngA
namespace Go.Proofs.Ytgijgcmcpgepaaa.Eng
set_option linter.unusedSimpArgs false
set_option linter.unusedVariables false

inductive NObj where
  | cells (cs : List AVal)
  | ro (cs : List AVal)
  | tok (e : TypeId) (s len : Nat)
  | full (k len : Nat)
  | gone
  | oth (x : OObj)
  deriving Inhabited

abbrev Mem := Nat → Option NObj
def Mem.put (g : Mem) (n : Nat) (o : NObj) : Mem := fun m => if n = m then some o else g m
theorem Mem.put_self (g : Mem) (n : Nat) (o : NObj) : g.put n o n = some o := if_pos rfl
theorem Mem.put_ne {g : Mem} {n m : Nat} (o : NObj) (h : n ≠ m) : g.put n o m = g m := if_neg h

def Own (G : Ghost) (g : Mem) (n b : Nat) : Prop :=
  (∃ cs, g n = some (.cells cs) ∧ G.ρ n = some b) ∨ (∃ e s len cap, g n = some (.tok e s len) ∧ G.H n len = some (b, cap)) ∨ (∃ x, g n = some (.oth x) ∧ G.ρ n = some b)

def ObjRel (G : Ghost) (w : World) (n : Nat) : NObj → Prop
  | .cells cs => ∃ b c t, G.ρ n = some b ∧ w.heap[b]? = some (.cells c t (0, 0)) ∧ PRel G cs c ∧ (∀ o, G.imm b o = none) ∧ ∀ tot e, G.H n 0 = some (tot, e) → tot = c.size ∧ e = t
  | .ro cs => ∃ b, G.ρ n = some b ∧ ∀ (j : Nat) (c : AVal), cs[j]? = some c → ∃ v, G.imm b j = some v ∧ VRel G c v
  | .tok e s len => (len = 0 ∧ ∀ l, G.H n l = none) ∨ ∃ b cap c, G.H n len = some (b, cap) ∧ w.heap[b]? = some (.cells c e (0, 0)) ∧ c.size = cap * s ∧ len ≤ cap ∧ (∀ o, len * s ≤ o → G.imm b o = none) ∧ ∀ l, len < l → G.H n l = none
  | .full k len => ∃ b, G.H k len = some (b, len)
  | .gone => True
  | .oth x => ∃ b ob, G.ρ n = some b ∧ w.heap[b]? = some ob ∧ OthRel G x ob ∧ ∀ o, G.imm b o = none

structure Core (G : Ghost) (g : Mem) (w : World) : Prop where
  imm : ∀ b o v, G.imm b o = some v → w.cell? ⟨b, o, none⟩ = some v
  obj : ∀ n o, g n = some o → ObjRel G w n o
  inj : ∀ n m b, Own G g n b → Own G g m b → n = m

structure Ext (G : Ghost) (g : Mem) (w : World) (G' : Ghost) (g' : Mem) (w' : World) : Prop where
  le : G.le G'
  os : w'.os = w.os
  tape : w'.tape = w.tape
  output : w'.output = w.output
  size : w.heap.size ≤ w'.heap.size
  loops : ∀ (b : Nat) (r : Loop), w.heap[b]? = some (Obj.loop r) → ∃ r' : Loop, w'.heap[b]? = some (Obj.loop r')
  keep : ∀ b, b < w.heap.size → (¬ ∃ n, Own G g n b) → w'.heap[b]? = w.heap[b]? ∧ (∀ o, G'.imm b o = G.imm b o) ∧ ¬ ∃ n, Own G' g' n b

theorem Ext.refl (G : Ghost) (g : Mem) (w : World) : Ext G g w G g w := ⟨.refl G, rfl, rfl, rfl, Nat.le_refl _, fun _ r h => ⟨r, h⟩, fun _ _ h => ⟨rfl, fun _ => rfl, h⟩⟩
theorem Ext.trans {G G' G'' : Ghost} {g g' g'' : Mem} {w w' w'' : World} (h : Ext G g w G' g' w') (k : Ext G' g' w' G'' g'' w'') : Ext G g w G'' g'' w'' :=
  ⟨h.le.trans k.le, k.os.trans h.os, k.tape.trans h.tape, k.output.trans h.output, Nat.le_trans h.size k.size, fun b r hb => let ⟨r1, h1⟩ := h.loops b r hb; k.loops b r1 h1, fun b hb hn => by
    obtain ⟨a1, a2, a3⟩ := h.keep b hb hn
    obtain ⟨b1, b2, b3⟩ := k.keep b (Nat.lt_of_lt_of_le hb h.size) a3
    exact ⟨b1.trans a1, fun o => (b2 o).trans (a2 o), b3⟩⟩

theorem cell_lt {w : World} {b o : Nat} {v : Value} (h : w.cell? ⟨b, o, none⟩ = some v) : b < w.heap.size := by
  by_cases hb : b < w.heap.size
  · exact hb
  · unfold World.cell? at h
    rw [Array.getElem?_eq_none (by exact Nat.le_of_not_lt hb)] at h
    cases h
theorem heap_lt {w : World} {b : Nat} {o : Obj} (h : w.heap[b]? = some o) : b < w.heap.size := by
  by_cases hb : b < w.heap.size
  · exact hb
  · rw [Array.getElem?_eq_none (Nat.le_of_not_lt hb)] at h
    cases h
theorem cell_of_heap {w : World} {b : Nat} {c : Array Value} {t : TypeId} {fz : Nat × Nat} (h : w.heap[b]? = some (.cells c t fz)) (o : Nat) : w.cell? ⟨b, o, none⟩ = c[o]? := by
  simp [World.cell?, h]
theorem cell_congr {w w' : World} {b o : Nat} (h : w'.heap[b]? = w.heap[b]?) : w'.cell? ⟨b, o, none⟩ = w.cell? ⟨b, o, none⟩ := by
  simp [World.cell?, h]

theorem Core.imm_new {G : Ghost} {g : Mem} {w : World} (h : Core G g w) {b : Nat} (hb : w.heap.size ≤ b) (o : Nat) : G.imm b o = none := by
  cases hv : G.imm b o with
  | none => rfl
  | some v => exact absurd (cell_lt (h.imm b o v hv)) (Nat.not_lt.2 hb)

theorem Own.lt {G : Ghost} {g : Mem} {w : World} (h : Core G g w) {n b : Nat} (ho : Own G g n b) : b < w.heap.size := by
  rcases ho with ⟨cs, hg, hr⟩ | ⟨e, s, len, cap, hg, hr⟩ | ⟨x, hg, hr⟩
  · obtain ⟨b', c, t, h1, h2, _⟩ := h.obj n _ hg
    rw [hr] at h1; cases h1
    exact heap_lt h2
  · rcases h.obj n _ hg with ⟨_, z2⟩ | ⟨b', cap', c, h1, h2, _⟩
    · rw [z2] at hr; cases hr
    rw [hr] at h1; cases h1
    exact heap_lt h2
  · obtain ⟨b', ob, h1, h2, _⟩ := h.obj n _ hg
    rw [hr] at h1; cases h1
    exact heap_lt h2

/-- A name that is not yet used. -/
structure Fresh (G : Ghost) (g : Mem) (n : Nat) : Prop where
  ρ : G.ρ n = none
  H : ∀ l, G.H n l = none
  g : g n = none

/-- An object stays what it was where its block stays. -/
theorem ObjRel.keep {G G' : Ghost} {w w' : World} {n : Nat} {o : NObj} (h : ObjRel G w n o) (le : G.le G') (hH : ∀ l, G'.H n l = G.H n l)
    (hb : ∀ b, (G.ρ n = some b ∨ ∃ l cap, G.H n l = some (b, cap)) → b < w.heap.size → w'.heap[b]? = w.heap[b]? ∧ ∀ o, G'.imm b o = G.imm b o) : ObjRel G' w' n o := by
  cases o with
  | cells cs =>
    obtain ⟨b, c, t, h1, h2, h3, h4⟩ := h
    obtain ⟨k1, k2⟩ := hb b (.inl h1) (heap_lt h2)
    exact ⟨b, c, t, le.ρ h1, k1.trans h2, h3.mono le, fun o => (k2 o).trans (h4.1 o), fun tot e hh => h4.2 tot e ((hH 0).symm.trans hh)⟩
  | ro cs =>
    obtain ⟨b, h1, h2⟩ := h
    exact ⟨b, le.ρ h1, fun j c hj => let ⟨v, a, r⟩ := h2 j c hj; ⟨v, le.imm a, r.mono le⟩⟩
  | gone => exact trivial
  | full k len => exact let ⟨b, h1⟩ := h; ⟨b, le.H h1⟩
  | tok te s len =>
    rcases h with ⟨z1, z2⟩ | ⟨b, cap, c, h1, h2, h3, h4, h5, h6⟩
    · exact .inl ⟨z1, fun l => (hH l).trans (z2 l)⟩
    obtain ⟨k1, k2⟩ := hb b (.inr ⟨_, _, h1⟩) (heap_lt h2)
    refine .inr ⟨b, cap, c, le.H h1, k1.trans h2, h3, h4, fun o ho => (k2 o).trans (h5 o ho), fun l hl => (hH l).trans (h6 l hl)⟩
  | oth x =>
    obtain ⟨b, ob, h1, h2, h3, h4⟩ := h
    obtain ⟨k1, k2⟩ := hb b (.inl h1) (heap_lt h2)
    exact ⟨b, ob, le.ρ h1, k1.trans h2, h3.mono le, fun o => (k2 o).trans (h4 o)⟩

def Ghost.withRho (G : Ghost) (n b : Nat) : Ghost := { G with ρ := fun m => if m = n then some b else G.ρ m }
def Ghost.withImm (G : Ghost) (b : Nat) (f : Nat → Option Value) : Ghost := { G with imm := fun b' o => if b' = b then (match f o with | some v => some v | none => G.imm b' o) else G.imm b' o }
def Ghost.withH (G : Ghost) (k l : Nat) (x : Nat × Nat) : Ghost := { G with H := fun k' l' => if k' = k ∧ l' = l then some x else G.H k' l' }

theorem le_withRho {G : Ghost} {n b : Nat} (h : G.ρ n = none) : G.le (G.withRho n b) :=
  ⟨id, fun {m c} hm => by
    unfold Ghost.withRho
    by_cases e : m = n
    · subst e; rw [h] at hm; cases hm
    · simp [e, hm], id, rfl⟩

theorem World.alloc_heap (w : World) (o : Obj) {b : Nat} (h : b < w.heap.size) : (w.alloc o).heap[b]? = w.heap[b]? := RowKit.Below.heap_alloc w o b h
theorem loops_alloc (w : World) (ob : Obj) : ∀ (b : Nat) (r : Loop), w.heap[b]? = some (Obj.loop r) → ∃ r' : Loop, (w.alloc ob).heap[b]? = some (Obj.loop r') := fun b r hb => ⟨r, (World.alloc_heap w ob (heap_lt hb)).trans hb⟩

/-- A new block with a name. -/
theorem core_new {G : Ghost} {g : Mem} {w : World} (h : Core G g w) {n : Nat} (hn : Fresh G g n) {cs : List AVal} {c : Array Value} (hr : ARel G cs c) (t : TypeId) :
    let G' := G.withRho n w.heap.size
    let g' := g.put n (.cells cs)
    let w' := w.alloc (.cells c t)
    Core G' g' w' ∧ Ext G g w G' g' w' ∧ G'.ρ n = some w.heap.size := by
  intro G' g' w'
  have le : G.le G' := le_withRho hn.ρ
  have gself : g' n = some (.cells cs) := Mem.put_self g n _
  have gne : ∀ m, n ≠ m → g' m = g m := fun m e => Mem.put_ne _ e
  have hρ : G'.ρ n = some w.heap.size := by simp [G', Ghost.withRho]
  have himm : ∀ b o, G'.imm b o = G.imm b o := fun _ _ => rfl
  have hH : ∀ k l, G'.H k l = G.H k l := fun _ _ => rfl
  have hρ' : ∀ m, m ≠ n → G'.ρ m = G.ρ m := fun m hm => by simp [G', Ghost.withRho, hm]
  have own_new : ∀ m b, Own G' g' m b → (m = n ∧ b = w.heap.size) ∨ (m ≠ n ∧ Own G g m b) := by
    intro m b ho
    by_cases hm : m = n
    · subst hm
      rcases ho with ⟨cs', h1, h2⟩ | ⟨te, s, len, cap, h1, h2⟩ | ⟨x', h1, h2⟩
      · rw [hρ] at h2; cases h2; exact .inl ⟨rfl, rfl⟩
      · rw [gself] at h1; cases h1
      · rw [gself] at h1; cases h1
    · refine .inr ⟨hm, ?_⟩
      rcases ho with ⟨cs', h1, h2⟩ | ⟨te, s, len, cap, h1, h2⟩ | ⟨x', h1, h2⟩
      · rw [gne _ (Ne.symm hm)] at h1; rw [hρ' m hm] at h2; exact .inl ⟨cs', h1, h2⟩
      · rw [gne _ (Ne.symm hm)] at h1; exact .inr (.inl ⟨te, s, len, cap, h1, h2⟩)
      · rw [gne _ (Ne.symm hm)] at h1; rw [hρ' m hm] at h2; exact .inr (.inr ⟨x', h1, h2⟩)
  refine ⟨⟨?_, ?_, ?_⟩, ⟨le, rfl, rfl, rfl, by show w.heap.size ≤ (w.heap.push _).size; simp, loops_alloc w _, ?_⟩, hρ⟩
  · intro b o v hv
    have := h.imm b o v hv
    rw [← this]
    exact cell_congr (World.alloc_heap w _ (cell_lt this))
  · intro m o hm
    by_cases e : n = m
    · subst e
      rw [gself] at hm; cases hm
      exact ⟨w.heap.size, c, t, hρ, heap_alloc_new w _, (hr.mono le).toP, fun o => h.imm_new (Nat.le_refl _) o, fun tot e hh => absurd ((hn.H 0).symm.trans hh) (by simp)⟩
    · rw [gne _ e] at hm
      exact (h.obj m o hm).keep le (fun _ => rfl) fun b _ hlt => ⟨World.alloc_heap w _ hlt, fun _ => rfl⟩
  · intro m m' b h1 h2
    rcases own_new m b h1 with ⟨e1, hb⟩ | ⟨_, o1⟩
    · rcases own_new m' b h2 with ⟨e2, _⟩ | ⟨_, o2⟩
      · rw [e1, e2]
      · have := o2.lt h; omega
    · rcases own_new m' b h2 with ⟨_, hb⟩ | ⟨_, o2⟩
      · have := o1.lt h; omega
      · exact h.inj m m' b o1 o2
  · intro b hb hno
    refine ⟨World.alloc_heap w _ hb, fun _ => rfl, ?_⟩
    rintro ⟨m, ho⟩
    rcases own_new m b ho with ⟨_, e⟩ | ⟨_, o1⟩
    · omega
    · exact hno ⟨m, o1⟩

/-- A new object with a name. -/
theorem core_newO {G : Ghost} {g : Mem} {w : World} (h : Core G g w) {n : Nat} (hn : Fresh G g n) {x : OObj} {ob : Obj} (hr : OthRel G x ob) :
    let G' := G.withRho n w.heap.size
    let g' := g.put n (.oth x)
    let w' := w.alloc ob
    Core G' g' w' ∧ Ext G g w G' g' w' ∧ G'.ρ n = some w.heap.size := by
  intro G' g' w'
  have le : G.le G' := le_withRho hn.ρ
  have gself : g' n = some (.oth x) := Mem.put_self g n _
  have gne : ∀ m, n ≠ m → g' m = g m := fun m e => Mem.put_ne _ e
  have hρ : G'.ρ n = some w.heap.size := by simp [G', Ghost.withRho]
  have himm : ∀ b o, G'.imm b o = G.imm b o := fun _ _ => rfl
  have hH : ∀ k l, G'.H k l = G.H k l := fun _ _ => rfl
  have hρ' : ∀ m, m ≠ n → G'.ρ m = G.ρ m := fun m hm => by simp [G', Ghost.withRho, hm]
  have own_new : ∀ m b, Own G' g' m b → (m = n ∧ b = w.heap.size) ∨ (m ≠ n ∧ Own G g m b) := by
    intro m b ho
    by_cases hm : m = n
    · subst hm
      rcases ho with ⟨cs', h1, h2⟩ | ⟨te, s, len, cap, h1, h2⟩ | ⟨x', h1, h2⟩
      · rw [gself] at h1; cases h1
      · rw [gself] at h1; cases h1
      · rw [hρ] at h2; cases h2; exact .inl ⟨rfl, rfl⟩
    · refine .inr ⟨hm, ?_⟩
      rcases ho with ⟨cs', h1, h2⟩ | ⟨te, s, len, cap, h1, h2⟩ | ⟨x', h1, h2⟩
      · rw [gne _ (Ne.symm hm)] at h1; rw [hρ' m hm] at h2; exact .inl ⟨cs', h1, h2⟩
      · rw [gne _ (Ne.symm hm)] at h1; exact .inr (.inl ⟨te, s, len, cap, h1, h2⟩)
      · rw [gne _ (Ne.symm hm)] at h1; rw [hρ' m hm] at h2; exact .inr (.inr ⟨x', h1, h2⟩)
  refine ⟨⟨?_, ?_, ?_⟩, ⟨le, rfl, rfl, rfl, by show w.heap.size ≤ (w.heap.push _).size; simp, loops_alloc w _, ?_⟩, hρ⟩
  · intro b o v hv
    have := h.imm b o v hv
    rw [← this]
    exact cell_congr (World.alloc_heap w _ (cell_lt this))
  · intro m o hm
    by_cases e : n = m
    · subst e
      rw [gself] at hm; cases hm
      exact ⟨w.heap.size, ob, hρ, heap_alloc_new w _, hr.mono le, fun o => h.imm_new (Nat.le_refl _) o⟩
    · rw [gne _ e] at hm
      exact (h.obj m o hm).keep le (fun _ => rfl) fun b _ hlt => ⟨World.alloc_heap w _ hlt, fun _ => rfl⟩
  · intro m m' b h1 h2
    rcases own_new m b h1 with ⟨e1, hb⟩ | ⟨_, o1⟩
    · rcases own_new m' b h2 with ⟨e2, _⟩ | ⟨_, o2⟩
      · rw [e1, e2]
      · have := o2.lt h; omega
    · rcases own_new m' b h2 with ⟨_, hb⟩ | ⟨_, o2⟩
      · have := o1.lt h; omega
      · exact h.inj m m' b o1 o2
  · intro b hb hno
    refine ⟨World.alloc_heap w _ hb, fun _ => rfl, ?_⟩
    rintro ⟨m, ho⟩
    rcases own_new m b ho with ⟨_, e⟩ | ⟨_, o1⟩
    · omega
    · exact hno ⟨m, o1⟩

/-- An object with a name is changed. -/
theorem core_setO {G : Ghost} {g : Mem} {w : World} (h : Core G g w) {n b : Nat} {x : OObj} (hg : g n = some (.oth x)) (hb : G.ρ n = some b) {y : OObj} {ob : Obj} (hy : OthRel G y ob) (hk : ∀ st tm ps a b, x = .loop st tm ps a b → ∃ st' tm' ps' a' b', y = .loop st' tm' ps' a' b') :
    let g' := g.put n (.oth y)
    let w' := { w with heap := w.heap.setIfInBounds b ob }
    Core G g' w' ∧ Ext G g w G g' w' := by
  intro g' w'
  have gself : g' n = some (.oth y) := Mem.put_self g n _
  have gne : ∀ m, n ≠ m → g' m = g m := fun m e => Mem.put_ne _ e
  obtain ⟨b', ob0, h1, h2, h3, h4⟩ := h.obj n _ hg
  rw [hb] at h1; cases h1
  have hloop : ∀ r : Loop, w.heap[b]? = some (Obj.loop r) → ∃ r' : Loop, ob = Obj.loop r' := fun r hr => by
    rw [hr] at h2; cases h2
    cases x with
    | map es => obtain ⟨_, e, _⟩ := h3; cases e
    | iter m since seen =>
      cases m with
      | none => exact absurd (show Obj.loop r = _ from h3) (by intro e; cases e)
      | some m => obtain ⟨_, e, _⟩ := h3; cases e
    | loop st tm ps a c =>
      obtain ⟨_, _, _, _, _, rfl⟩ := hk _ _ _ _ _ rfl
      obtain ⟨r', e, _⟩ := hy
      exact ⟨r', e⟩
  have hown : ∀ m b', Own G g' m b' ↔ Own G g m b' := by
    intro m b'
    unfold Own
    by_cases e : n = m
    · subst e
      simp only [gself, hg]
      constructor
      · rintro (⟨cs', a, r⟩ | ⟨te, s, len, cap, a, r⟩ | ⟨x', a, r⟩)
        · cases a
        · cases a
        · exact .inr (.inr ⟨_, rfl, r⟩)
      · rintro (⟨cs', a, r⟩ | ⟨te, s, len, cap, a, r⟩ | ⟨x', a, r⟩)
        · cases a
        · cases a
        · exact .inr (.inr ⟨_, rfl, r⟩)
    · simp only [gne _ e]
  have hblock : w'.heap[b]? = some ob := by
    have := heap_lt h2
    simp [w', this]
  have hfar : ∀ b', b' ≠ b → w'.heap[b']? = w.heap[b']? := fun b' hne => by
    simp only [w']; rw [Array.getElem?_setIfInBounds_ne (Ne.symm hne)]
  have hno : Own G g n b := .inr (.inr ⟨x, hg, hb⟩)
  refine ⟨⟨?_, ?_, ?_⟩, ⟨.refl G, rfl, rfl, rfl, by simp [w'], fun b' r hb' => by
    by_cases e : b' = b
    · subst e; obtain ⟨r', rfl⟩ := hloop r hb'; exact ⟨r', hblock⟩
    · exact ⟨r, (hfar b' e).trans hb'⟩, ?_⟩⟩
  · intro b' o u hu
    have hne : b' ≠ b := by rintro rfl; rw [h4 o] at hu; cases hu
    rw [cell_congr (hfar b' hne)]
    exact h.imm b' o u hu
  · intro m o hm
    by_cases e : n = m
    · subst e
      rw [gself] at hm; cases hm
      exact ⟨b, ob, hb, hblock, hy, h4⟩
    · rw [gne _ e] at hm
      have hob := h.obj m o hm
      cases o with
      | cells cs' =>
        obtain ⟨b2, c2, t2, k1, k2, k3, k4⟩ := hob
        have hne : b2 ≠ b := by rintro rfl; exact e (h.inj n m b2 hno (.inl ⟨cs', hm, k1⟩))
        exact ⟨b2, c2, t2, k1, (hfar b2 hne).trans k2, k3, k4⟩
      | ro cs' => exact hob
      | gone => exact trivial
      | full k len => exact hob
      | tok te s len =>
        rcases hob with ⟨z1, z2⟩ | ⟨b2, cap, c2, k1, k2, k3, k4, k5, k6⟩
        · exact .inl ⟨z1, fun l => (z2 l)⟩
        have hne : b2 ≠ b := by rintro rfl; exact e (h.inj n m b2 hno (.inr (.inl ⟨te, s, len, cap, hm, k1⟩)))
        exact .inr ⟨b2, cap, c2, k1, (hfar b2 hne).trans k2, k3, k4, k5, k6⟩
      | oth x' =>
        obtain ⟨b2, ob2, k1, k2, k3, k4⟩ := hob
        have hne : b2 ≠ b := by rintro rfl; exact e (h.inj n m b2 hno (.inr (.inr ⟨x', hm, k1⟩)))
        exact ⟨b2, ob2, k1, (hfar b2 hne).trans k2, k3, k4⟩
  · intro m m' b' o1 o2
    exact h.inj m m' b' ((hown m b').1 o1) ((hown m' b').1 o2)
  · intro b' hb' hn
    have hne : b' ≠ b := by rintro rfl; exact hn ⟨n, hno⟩
    exact ⟨hfar b' hne, fun _ => rfl, fun ⟨m, ho⟩ => hn ⟨m, (hown m b').1 ho⟩⟩

/-- A cell of a block with a name is written. -/
theorem core_set {G : Ghost} {g : Mem} {w : World} (h : Core G g w) {n b : Nat} {cs : List AVal} (hg : g n = some (.cells cs)) (hb : G.ρ n = some b) {x : AVal} {v : Value} (hx : VRel G x v) (i : Nat) (hi : i < cs.length) :
    let g' := g.put n (.cells (cs.set i x))
    let w' := w.setCell ⟨b, i, none⟩ v
    Core G g' w' ∧ Ext G g w G g' w' ∧ (∃ u, w.cell? ⟨b, i, none⟩ = some u) ∧ w.frozen? ⟨b, i, none⟩ = false := by
  intro g' w'
  have gself : g' n = some (.cells (cs.set i x)) := Mem.put_self g n _
  have gne : ∀ m, n ≠ m → g' m = g m := fun m e => Mem.put_ne _ e
  obtain ⟨b', c, t, h1, h2, h3, h4⟩ := h.obj n _ hg
  rw [hb] at h1; cases h1
  have hown : ∀ m b', Own G g' m b' ↔ Own G g m b' := by
    intro m b'
    unfold Own
    by_cases e : n = m
    · subst e
      simp only [gself, hg]
      constructor
      · rintro (⟨cs', a, r⟩ | ⟨te, s, len, cap, a, r⟩ | ⟨x', a, r⟩)
        · exact .inl ⟨cs, rfl, r⟩
        · cases a
        · cases a
      · rintro (⟨cs', a, r⟩ | ⟨te, s, len, cap, a, r⟩ | ⟨x', a, r⟩)
        · exact .inl ⟨_, rfl, r⟩
        · cases a
        · cases a
    · simp only [gne _ e]
  have hblock : w'.heap[b]? = some (.cells (c.setIfInBounds i v) t (0, 0)) := by
    simp [w', World.setCell, Array.getElem?_modify, h2]
  have hfar : ∀ b', b' ≠ b → w'.heap[b']? = w.heap[b']? := fun b' hne => RowKit.Below.heap_setCell w _ v b' hne
  refine ⟨⟨?_, ?_, ?_⟩, ⟨.refl G, rfl, rfl, rfl, by simp [w', World.setCell], fun b' r hb' => ⟨r, (hfar b' (by rintro rfl; rw [h2] at hb'; cases hb')).trans hb'⟩, ?_⟩, ?_, ?_⟩
  · intro b' o u hu
    have hne : b' ≠ b := by rintro rfl; rw [h4.1 o] at hu; cases hu
    rw [cell_congr (hfar b' hne)]
    exact h.imm b' o u hu
  · intro m o hm
    by_cases e : n = m
    · subst e
      rw [gself] at hm; cases hm
      exact ⟨b, _, t, hb, hblock, h3.set hx i, h4.1, fun tot e hh => by simpa using h4.2 tot e hh⟩
    · rw [gne _ e] at hm
      have hob := h.obj m o hm
      cases o with
      | cells cs' =>
        obtain ⟨b2, c2, t2, k1, k2, k3, k4⟩ := hob
        have hne : b2 ≠ b := by
          rintro rfl
          exact e (h.inj n m b2 (.inl ⟨cs, hg, hb⟩) (.inl ⟨cs', hm, k1⟩))
        exact ⟨b2, c2, t2, k1, (hfar b2 hne).trans k2, k3, k4⟩
      | ro cs' => exact hob
      | gone => exact trivial
      | full k len => exact hob
      | tok te s len =>
        rcases hob with ⟨z1, z2⟩ | ⟨b2, cap, c2, k1, k2, k3, k4, k5, k6⟩
        · exact .inl ⟨z1, fun l => (z2 l)⟩
        have hne : b2 ≠ b := by
          rintro rfl
          exact e (h.inj n m b2 (.inl ⟨cs, hg, hb⟩) (.inr (.inl ⟨te, s, len, cap, hm, k1⟩)))
        exact .inr ⟨b2, cap, c2, k1, (hfar b2 hne).trans k2, k3, k4, k5, k6⟩
      | oth x' =>
        obtain ⟨b2, ob2, k1, k2, k3, k4⟩ := hob
        have hne : b2 ≠ b := by rintro rfl; exact e (h.inj n m b2 (.inl ⟨cs, hg, hb⟩) (.inr (.inr ⟨x', hm, k1⟩)))
        exact ⟨b2, ob2, k1, (hfar b2 hne).trans k2, k3, k4⟩
  · intro m m' b' o1 o2
    exact h.inj m m' b' ((hown m b').1 o1) ((hown m' b').1 o2)
  · intro b' hb' hno
    have hne : b' ≠ b := by rintro rfl; exact hno ⟨n, .inl ⟨cs, hg, hb⟩⟩
    exact ⟨hfar b' hne, fun _ => rfl, fun ⟨m, ho⟩ => hno ⟨m, (hown m b').1 ho⟩⟩
  · rw [cell_of_heap h2]
    exact ⟨c[i]'(by have := h3.len; omega), Array.getElem?_eq_getElem _⟩
  · simp [World.frozen?, h2]

/-- Reading a cell of a block with a name. -/
theorem core_get {G : Ghost} {g : Mem} {w : World} (h : Core G g w) {n b : Nat} {cs : List AVal} (hg : g n = some (.cells cs)) (hb : G.ρ n = some b) {i : Nat} {x : AVal} (hi : cs[i]? = some x) :
    ∃ v, w.cell? ⟨b, i, none⟩ = some v ∧ VRel G x v := by
  obtain ⟨b', c, t, h1, h2, h3, h4⟩ := h.obj n _ hg
  rw [hb] at h1; cases h1
  obtain ⟨v, a, r⟩ := h3.get hi
  exact ⟨v, by rw [cell_of_heap h2]; exact a, r⟩
theorem core_ro {G : Ghost} {g : Mem} {w : World} (h : Core G g w) {n b : Nat} {cs : List AVal} (hg : g n = some (.ro cs)) (hb : G.ρ n = some b) {i : Nat} {x : AVal} (hi : cs[i]? = some x) :
    ∃ v, w.cell? ⟨b, i, none⟩ = some v ∧ VRel G x v := by
  obtain ⟨b', h1, h2⟩ := h.obj n _ hg
  rw [hb] at h1; cases h1
  obtain ⟨v, a, r⟩ := h2 i x hi
  exact ⟨v, h.imm _ _ _ a, r⟩

/-- A block with a name is written no more. -/
theorem core_freeze {G : Ghost} {g : Mem} {w : World} (h : Core G g w) {n b : Nat} {cs : List AVal} (hg : g n = some (.cells cs)) (hb : G.ρ n = some b) :
    ∃ G', G'.ρ = G.ρ ∧ G'.H = G.H ∧ Core G' (g.put n (.ro cs)) w ∧ Ext G g w G' (g.put n (.ro cs)) w ∧ (∀ (j : Nat) (c : AVal), cs[j]? = some c → ∃ v, G'.imm b j = some v ∧ VRel G' c v) := by
  obtain ⟨b', c, t, h1, h2, h3, h4⟩ := h.obj n _ hg
  rw [hb] at h1; cases h1
  let G' := G.withImm b (fun o => c[o]?)
  have far : ∀ b' o, b' ≠ b → G'.imm b' o = G.imm b' o := fun b' o hne => by simp [G', Ghost.withImm, hne]
  have near : ∀ o v, c[o]? = some v → G'.imm b o = some v := fun o v hv => by simp [G', Ghost.withImm, hv]
  have near' : ∀ o v, G'.imm b o = some v → c[o]? = some v := fun o v hv => by
    simp only [G', Ghost.withImm, if_true] at hv
    cases hc : c[o]? with
    | none => simp [hc, h4.1 o] at hv
    | some u => simp [hc] at hv; rw [hv]
  have le : G.le G' := ⟨fun {b' o v} hv => by
    by_cases e : b' = b
    · subst e; rw [h4.1 o] at hv; cases hv
    · rw [far b' o e]; exact hv, id, id, rfl⟩
  have hval : ∀ (j : Nat) (x : AVal), cs[j]? = some x → ∃ v, G'.imm b j = some v ∧ VRel G' x v := fun j x hj => by
    obtain ⟨v, a, r⟩ := h3.get hj
    exact ⟨v, near j v a, r.mono le⟩
  have hown : ∀ m b', Own G' (g.put n (.ro cs)) m b' → n ≠ m ∧ Own G g m b' := by
    intro m b' ho
    by_cases e : n = m
    · subst e
      rcases ho with ⟨cs', a, r⟩ | ⟨te, s, len, cap, a, r⟩ | ⟨x', a, r⟩ <;> (rw [Mem.put_self] at a; cases a)
    · refine ⟨e, ?_⟩
      rcases ho with ⟨cs', a, r⟩ | ⟨te, s, len, cap, a, r⟩ | ⟨x', a, r⟩ <;> rw [Mem.put_ne _ e] at a
      · exact .inl ⟨cs', a, r⟩
      · exact .inr (.inl ⟨te, s, len, cap, a, r⟩)
      · exact .inr (.inr ⟨x', a, r⟩)
  refine ⟨G', rfl, rfl, ⟨?_, ?_, ?_⟩, ⟨le, rfl, rfl, rfl, Nat.le_refl _, fun _ r h => ⟨r, h⟩, ?_⟩, hval⟩
  · intro b' o v hv
    by_cases e : b' = b
    · subst e
      rw [cell_of_heap h2]
      exact near' o v hv
    · rw [far b' o e] at hv
      exact h.imm b' o v hv
  · intro m o hm
    by_cases e : n = m
    · subst e
      rw [Mem.put_self] at hm; cases hm
      exact ⟨b, hb, hval⟩
    · rw [Mem.put_ne _ e] at hm
      have hob := h.obj m o hm
      cases o with
      | cells cs' =>
        obtain ⟨b2, c2, t2, k1, k2, k3, k4⟩ := hob
        have hne : b2 ≠ b := by rintro rfl; exact e (h.inj n m b2 (.inl ⟨cs, hg, hb⟩) (.inl ⟨cs', hm, k1⟩))
        exact ⟨b2, c2, t2, k1, k2, k3.mono le, fun o => (far b2 o hne).trans (k4.1 o), k4.2⟩
      | ro cs' =>
        obtain ⟨b2, k1, k2⟩ := hob
        exact ⟨b2, k1, fun j c hj => let ⟨v, a, r⟩ := k2 j c hj; ⟨v, le.imm a, r.mono le⟩⟩
      | gone => exact trivial
      | full k len => exact let ⟨b2, k1⟩ := hob; ⟨b2, le.H k1⟩
      | tok te s len =>
        rcases hob with ⟨z1, z2⟩ | ⟨b2, cap, c2, k1, k2, k3, k4, k5, k6⟩
        · exact .inl ⟨z1, fun l => (z2 l)⟩
        have hne : b2 ≠ b := by rintro rfl; exact e (h.inj n m b2 (.inl ⟨cs, hg, hb⟩) (.inr (.inl ⟨te, s, len, cap, hm, k1⟩)))
        exact .inr ⟨b2, cap, c2, k1, k2, k3, k4, fun o ho => (far b2 o hne).trans (k5 o ho), k6⟩
      | oth x' =>
        obtain ⟨b2, ob2, k1, k2, k3, k4⟩ := hob
        have hne : b2 ≠ b := by rintro rfl; exact e (h.inj n m b2 (.inl ⟨cs, hg, hb⟩) (.inr (.inr ⟨x', hm, k1⟩)))
        exact ⟨b2, ob2, k1, k2, k3.mono le, fun o => (far b2 o hne).trans (k4 o)⟩
  · intro m m' b' o1 o2
    exact h.inj m m' b' (hown m b' o1).2 (hown m' b' o2).2
  · intro b' hb' hno
    have hne : b' ≠ b := by rintro rfl; exact hno ⟨n, .inl ⟨cs, hg, hb⟩⟩
    exact ⟨rfl, fun o => far b' o hne, fun ⟨m, ho⟩ => hno ⟨m, (hown m b' ho).2⟩⟩

/-- How a growing list may come to a new length: it is new, or it was shorter. -/
def Grows (G : Ghost) (k len : Nat) : Prop := ∀ l, len ≤ l → G.H k l = none

theorem le_withH {G : Ghost} {k l : Nat} {x : Nat × Nat} (h : G.H k l = none) : G.le (G.withH k l x) :=
  ⟨id, id, fun {k' l' y} hy => by
    unfold Ghost.withH
    by_cases e : k' = k ∧ l' = l
    · obtain ⟨rfl, rfl⟩ := e; rw [h] at hy; cases hy
    · simp only [e, if_false]; exact hy, rfl⟩

/-- A growing list lies in a new block. -/
theorem core_row {G : Ghost} {g : Mem} {w : World} (h : Core G g w) {k len : Nat} (hk : Grows G k len) (e : TypeId) (s cap : Nat) (c : Array Value) (hc : c.size = cap * s) (hl : len ≤ cap) :
    ∃ G', G'.ρ = G.ρ ∧ (∀ k' l, k' ≠ k → G'.H k' l = G.H k' l) ∧ (∀ l, l ≠ len → G'.H k l = G.H k l) ∧ Core G' (g.put k (.tok e s len)) (w.alloc (.cells c e)) ∧ Ext G g w G' (g.put k (.tok e s len)) (w.alloc (.cells c e)) ∧
      G'.H k len = some (w.heap.size, cap) ∧ (∀ o v, o < len * s → c[o]? = some v → G'.imm w.heap.size o = some v) := by
  let G1 := G.withImm w.heap.size (fun o => if o < len * s then c[o]? else none)
  let G' := G1.withH k len (w.heap.size, cap)
  have hnew : ∀ o, G.imm w.heap.size o = none := fun o => h.imm_new (Nat.le_refl _) o
  have far : ∀ b o, b ≠ w.heap.size → G'.imm b o = G.imm b o := fun b o hne => by simp [G', G1, Ghost.withImm, Ghost.withH, hne]
  have near : ∀ o v, o < len * s → c[o]? = some v → G'.imm w.heap.size o = some v := fun o v ho hv => by simp [G', G1, Ghost.withImm, Ghost.withH, hv, ho]
  have near' : ∀ o v, G'.imm w.heap.size o = some v → o < len * s ∧ c[o]? = some v := fun o v hv => by
    simp only [G', G1, Ghost.withImm, Ghost.withH, if_true, hnew] at hv
    by_cases ho : o < len * s
    · simp only [ho, if_true] at hv
      cases hc : c[o]? with
      | none => simp [hc] at hv
      | some u => simp [hc] at hv; exact ⟨ho, by rw [hv]⟩
    · simp [ho] at hv
  have le : G.le G' := by
    refine Ghost.le.trans (G' := G1) ⟨fun {b o v} hv => ?_, id, id, rfl⟩ (le_withH (hk len (Nat.le_refl _)))
    by_cases e : b = w.heap.size
    · subst e; rw [hnew o] at hv; cases hv
    · simp [G1, Ghost.withImm, e]; exact hv
  have hH : G'.H k len = some (w.heap.size, cap) := by simp [G', Ghost.withH]
  have hH' : ∀ k' l, k' ≠ k → G'.H k' l = G.H k' l := fun k' l hne => by simp [G', G1, Ghost.withH, Ghost.withImm, hne]
  have hH2 : ∀ l, l ≠ len → G'.H k l = G.H k l := fun l hne => by simp [G', G1, Ghost.withH, Ghost.withImm, hne]
  have gself : (g.put k (.tok e s len)) k = some (.tok e s len) := Mem.put_self g k _
  have gne : ∀ m, k ≠ m → (g.put k (.tok e s len)) m = g m := fun m e => Mem.put_ne _ e
  have own_new : ∀ m b, Own G' (g.put k (.tok e s len)) m b → (m = k ∧ b = w.heap.size) ∨ (k ≠ m ∧ Own G g m b) := by
    intro m b ho
    by_cases hm : k = m
    · subst hm
      rcases ho with ⟨cs', h1, h2⟩ | ⟨te, s', len', cap', h1, h2⟩ | ⟨x', h1, h2⟩
      · rw [gself] at h1; cases h1
      · rw [gself] at h1; cases h1; rw [hH] at h2; cases h2; exact .inl ⟨rfl, rfl⟩
      · rw [gself] at h1; cases h1
    · refine .inr ⟨hm, ?_⟩
      rcases ho with ⟨cs', h1, h2⟩ | ⟨te, s', len', cap', h1, h2⟩ | ⟨x', h1, h2⟩
      · rw [gne _ hm] at h1; exact .inl ⟨cs', h1, h2⟩
      · rw [gne _ hm] at h1; rw [hH' m _ (Ne.symm hm)] at h2; exact .inr (.inl ⟨te, s', len', cap', h1, h2⟩)
      · rw [gne _ hm] at h1; exact .inr (.inr ⟨x', h1, h2⟩)
  refine ⟨G', rfl, hH', hH2, ⟨?_, ?_, ?_⟩, ⟨le, rfl, rfl, rfl, by show w.heap.size ≤ (w.heap.push _).size; simp, loops_alloc w _, ?_⟩, hH, near⟩
  · intro b o v hv
    by_cases eb : b = w.heap.size
    · subst eb
      rw [cell_of_heap (heap_alloc_new w _)]
      exact (near' o v hv).2
    · rw [far b o eb] at hv
      have := h.imm b o v hv
      rw [← this]
      exact cell_congr (World.alloc_heap w _ (cell_lt this))
  · intro m o hm
    by_cases em : k = m
    · subst em
      rw [gself] at hm; cases hm
      refine .inr ⟨w.heap.size, cap, c, hH, heap_alloc_new w _, hc, hl, fun o ho => ?_, fun l hl => (hH2 l (by omega)).trans (hk l (by omega))⟩
      cases hv : G'.imm w.heap.size o with
      | none => rfl
      | some v => have := (near' o v hv).1; omega
    · rw [gne _ em] at hm
      exact (h.obj m o hm).keep le (fun l => hH' m l (Ne.symm em)) fun b _ hlt => ⟨World.alloc_heap w _ hlt, fun o => far b o (by omega)⟩
  · intro m m' b h1 h2
    rcases own_new m b h1 with ⟨e1, hb⟩ | ⟨_, o1⟩
    · rcases own_new m' b h2 with ⟨e2, _⟩ | ⟨_, o2⟩
      · rw [e1, e2]
      · have := o2.lt h; omega
    · rcases own_new m' b h2 with ⟨_, hb⟩ | ⟨_, o2⟩
      · have := o1.lt h; omega
      · exact h.inj m m' b o1 o2
  · intro b hb hno
    refine ⟨World.alloc_heap w _ hb, fun o => far b o (by omega), ?_⟩
    rintro ⟨m, ho⟩
    rcases own_new m b ho with ⟨_, e⟩ | ⟨_, o1⟩
    · omega
    · exact hno ⟨m, o1⟩

/-- A growing list grows in its block. -/
theorem core_push {G : Ghost} {g : Mem} {w w' : World} (h : Core G g w) {k len len' b cap : Nat} {e : TypeId} {s : Nat} {c c' : Array Value} (hg : g k = some (.tok e s len)) (hH0 : G.H k len = some (b, cap)) (hH1 : Grows G k len')
    (hb : w.heap[b]? = some (.cells c e (0, 0))) (hlen : len ≤ len') (hcap : len' ≤ cap) (hsz : c'.size = c.size) (hsame : ∀ o, o < len * s → c'[o]? = c[o]?)
    (hw : w'.heap[b]? = some (.cells c' e (0, 0))) (hfar : ∀ b', b' ≠ b → w'.heap[b']? = w.heap[b']?) (hos : w'.os = w.os) (htape : w'.tape = w.tape) (hout : w'.output = w.output) (hsize : w'.heap.size = w.heap.size) :
    ∃ G', G'.ρ = G.ρ ∧ (∀ k' l, k' ≠ k → G'.H k' l = G.H k' l) ∧ (∀ l, l ≠ len' → G'.H k l = G.H k l) ∧ Core G' (g.put k (.tok e s len')) w' ∧ Ext G g w G' (g.put k (.tok e s len')) w' ∧
      G'.H k len' = some (b, cap) ∧ (∀ o v, o < len' * s → c'[o]? = some v → G'.imm b o = some v) := by
  rcases h.obj k _ hg with ⟨_, z2⟩ | ⟨b0, cap0, c0, k1, k2, k3, k4, k5, k6⟩
  · rw [z2] at hH0; cases hH0
  rw [hH0] at k1; cases k1
  rw [hb] at k2; cases k2
  have hmul : len * s ≤ len' * s := Nat.mul_le_mul_right s hlen
  let G1 := G.withImm b (fun o => if o < len' * s then c'[o]? else none)
  let G' := G1.withH k len' (b, cap)
  have far : ∀ b' o, b' ≠ b → G'.imm b' o = G.imm b' o := fun b' o hne => by simp [G', G1, Ghost.withImm, Ghost.withH, hne]
  have near : ∀ o v, o < len' * s → c'[o]? = some v → G'.imm b o = some v := fun o v ho hv => by simp [G', G1, Ghost.withImm, Ghost.withH, hv, ho]
  have old : ∀ o v, G.imm b o = some v → o < len * s ∧ c'[o]? = some v := fun o v hv => by
    have hlt : o < len * s := by
      rcases Nat.lt_or_ge o (len * s) with hh | hh
      · exact hh
      · rw [k5 o hh] at hv; cases hv
    refine ⟨hlt, ?_⟩
    rw [hsame o hlt]
    have := h.imm b o v hv
    rw [cell_of_heap hb] at this
    exact this
  have near' : ∀ o v, G'.imm b o = some v → o < len' * s ∧ c'[o]? = some v := fun o v hv => by
    simp only [G', G1, Ghost.withImm, Ghost.withH, if_true] at hv
    by_cases ho : o < len' * s
    · simp only [ho, if_true] at hv
      cases hc : c'[o]? with
      | none =>
        simp only [hc] at hv
        have := (old o v hv).2
        rw [hc] at this; cases this
      | some u => simp [hc] at hv; exact ⟨ho, by rw [hv]⟩
    · simp only [ho, if_false] at hv
      have := (old o v hv).1
      omega
  have le : G.le G' := by
    refine Ghost.le.trans (G' := G1) ⟨fun {b' o v} hv => ?_, id, id, rfl⟩ (le_withH (hH1 len' (Nat.le_refl _)))
    by_cases eb : b' = b
    · subst eb
      have := old o v hv
      exact near o v (by omega) this.2
    · simp [G1, Ghost.withImm, eb]; exact hv
  have hH : G'.H k len' = some (b, cap) := by simp [G', Ghost.withH]
  have hH' : ∀ k' l, k' ≠ k → G'.H k' l = G.H k' l := fun k' l hne => by simp [G', G1, Ghost.withH, Ghost.withImm, hne]
  have hH2 : ∀ l, l ≠ len' → G'.H k l = G.H k l := fun l hne => by simp [G', G1, Ghost.withH, Ghost.withImm, hne]
  have gself : (g.put k (.tok e s len')) k = some (.tok e s len') := Mem.put_self g k _
  have gne : ∀ m, k ≠ m → (g.put k (.tok e s len')) m = g m := fun m e => Mem.put_ne _ e
  have hown : Own G g k b := .inr (.inl ⟨e, s, len, cap, hg, hH0⟩)
  have own_new : ∀ m b', Own G' (g.put k (.tok e s len')) m b' → Own G g m b' := by
    intro m b' ho
    by_cases hm : k = m
    · subst hm
      rcases ho with ⟨cs', h1, h2⟩ | ⟨te, s', l', cap', h1, h2⟩ | ⟨x', h1, h2⟩
      · rw [gself] at h1; cases h1
      · rw [gself] at h1; cases h1; rw [hH] at h2; cases h2; exact hown
      · rw [gself] at h1; cases h1
    · rcases ho with ⟨cs', h1, h2⟩ | ⟨te, s', l', cap', h1, h2⟩ | ⟨x', h1, h2⟩
      · rw [gne _ hm] at h1; exact .inl ⟨cs', h1, h2⟩
      · rw [gne _ hm] at h1; rw [hH' m _ (Ne.symm hm)] at h2; exact .inr (.inl ⟨te, s', l', cap', h1, h2⟩)
      · rw [gne _ hm] at h1; exact .inr (.inr ⟨x', h1, h2⟩)
  refine ⟨G', rfl, hH', hH2, ⟨?_, ?_, ?_⟩, ⟨le, hos, htape, hout, Nat.le_of_eq hsize.symm, fun b' r hb' => ⟨r, (hfar b' (by rintro rfl; rw [hb] at hb'; cases hb')).trans hb'⟩, ?_⟩, hH, near⟩
  · intro b' o v hv
    by_cases eb : b' = b
    · subst eb
      rw [cell_of_heap hw]
      exact (near' o v hv).2
    · rw [far b' o eb] at hv
      rw [cell_congr (hfar b' eb)]
      exact h.imm b' o v hv
  · intro m o hm
    by_cases em : k = m
    · subst em
      rw [gself] at hm; cases hm
      refine .inr ⟨b, cap, c', hH, hw, by rw [hsz, k3], hcap, fun o ho => ?_, fun l hl => (hH2 l (by omega)).trans (hH1 l (by omega))⟩
      cases hv : G'.imm b o with
      | none => rfl
      | some v => have := (near' o v hv).1; omega
    · rw [gne _ em] at hm
      have hob := h.obj m o hm
      cases o with
      | cells cs' =>
        obtain ⟨b2, c2, t2, j1, j2, j3, j4⟩ := hob
        have hne : b2 ≠ b := by rintro rfl; exact em (h.inj k m b2 hown (.inl ⟨cs', hm, j1⟩))
        exact ⟨b2, c2, t2, j1, (hfar b2 hne).trans j2, j3.mono le, fun o => (far b2 o hne).trans (j4.1 o), fun tot e hh => j4.2 tot e ((hH' m 0 (Ne.symm em)).symm.trans hh)⟩
      | ro cs' =>
        obtain ⟨b2, j1, j2⟩ := hob
        exact ⟨b2, j1, fun j c hj => let ⟨v, a, r⟩ := j2 j c hj; ⟨v, le.imm a, r.mono le⟩⟩
      | gone => exact trivial
      | full k len => exact let ⟨b2, k1⟩ := hob; ⟨b2, le.H k1⟩
      | tok te s2 len2 =>
        rcases hob with ⟨z1, z2⟩ | ⟨b2, cap2, c2, j1, j2, j3, j4, j5, j6⟩
        · exact .inl ⟨z1, fun l => (hH' m l (Ne.symm em)).trans (z2 l)⟩
        have hne : b2 ≠ b := by rintro rfl; exact em (h.inj k m b2 hown (.inr (.inl ⟨te, s2, len2, cap2, hm, j1⟩)))
        exact .inr ⟨b2, cap2, c2, (hH' m _ (Ne.symm em)).trans j1, (hfar b2 hne).trans j2, j3, j4, fun o ho => (far b2 o hne).trans (j5 o ho), fun l hl => (hH' m l (Ne.symm em)).trans (j6 l hl)⟩
      | oth x' =>
        obtain ⟨b2, ob2, j1, j2, j3, j4⟩ := hob
        have hne : b2 ≠ b := by rintro rfl; exact em (h.inj k m b2 hown (.inr (.inr ⟨x', hm, j1⟩)))
        exact ⟨b2, ob2, j1, (hfar b2 hne).trans j2, j3.mono le, fun o => (far b2 o hne).trans (j4 o)⟩
  · intro m m' b' o1 o2
    exact h.inj m m' b' (own_new m b' o1) (own_new m' b' o2)
  · intro b' hb' hno
    have hne : b' ≠ b := by rintro rfl; exact hno ⟨k, hown⟩
    exact ⟨hfar b' hne, fun o => far b' o hne, fun ⟨m, ho⟩ => hno ⟨m, own_new m b' ho⟩⟩

/-- A growing list that has no block yet. -/
theorem core_tok0 {G : Ghost} {g : Mem} {w : World} (h : Core G g w) {n : Nat} (hn : Fresh G g n) (e : TypeId) (s : Nat) :
    Core G (g.put n (.tok e s 0)) w ∧ Ext G g w G (g.put n (.tok e s 0)) w := by
  have gself : (g.put n (.tok e s 0)) n = some (.tok e s 0) := Mem.put_self g n _
  have gne : ∀ m, n ≠ m → (g.put n (.tok e s 0)) m = g m := fun m e => Mem.put_ne _ e
  have hown : ∀ m b, Own G (g.put n (.tok e s 0)) m b → Own G g m b := by
    intro m b ho
    by_cases hm : n = m
    · subst hm
      rcases ho with ⟨cs', h1, h2⟩ | ⟨te, s', l', cap', h1, h2⟩ | ⟨x', h1, h2⟩
      · rw [gself] at h1; cases h1
      · rw [hn.H] at h2; cases h2
      · rw [gself] at h1; cases h1
    · rcases ho with ⟨cs', h1, h2⟩ | ⟨te, s', l', cap', h1, h2⟩ | ⟨x', h1, h2⟩
      · rw [gne _ hm] at h1; exact .inl ⟨cs', h1, h2⟩
      · rw [gne _ hm] at h1; exact .inr (.inl ⟨te, s', l', cap', h1, h2⟩)
      · rw [gne _ hm] at h1; exact .inr (.inr ⟨x', h1, h2⟩)
  refine ⟨⟨h.imm, fun m o hm => ?_, fun m m' b o1 o2 => h.inj m m' b (hown m b o1) (hown m' b o2)⟩, ⟨.refl G, rfl, rfl, rfl, Nat.le_refl _, fun _ r h => ⟨r, h⟩, fun b hb hno => ⟨rfl, fun _ => rfl, fun ⟨m, ho⟩ => hno ⟨m, hown m b ho⟩⟩⟩⟩
  by_cases e1 : n = m
  · subst e1
    rw [gself] at hm; cases hm
    exact .inl ⟨rfl, hn.H⟩
  · rw [gne _ e1] at hm
    exact h.obj m o hm

/-- A new block with room, with a name. -/
theorem core_newV {G : Ghost} {g : Mem} {w : World} (h : Core G g w) {n : Nat} (hn : Fresh G g n) {cs : List AVal} {c : Array Value} (hr : PRel G cs c) (e : TypeId) :
    let G' := (G.withRho n w.heap.size).withH n 0 (c.size, e)
    let g' := g.put n (.cells cs)
    let w' := w.alloc (.cells c e)
    Core G' g' w' ∧ Ext G g w G' g' w' ∧ G'.ρ n = some w.heap.size ∧ G'.H n 0 = some (c.size, e) := by
  intro G' g' w'
  have le : G.le G' := (le_withRho hn.ρ).trans (le_withH (hn.H 0))
  have gself : g' n = some (.cells cs) := Mem.put_self g n _
  have gne : ∀ m, n ≠ m → g' m = g m := fun m e => Mem.put_ne _ e
  have hρ : G'.ρ n = some w.heap.size := by simp [G', Ghost.withRho, Ghost.withH]
  have hH0 : G'.H n 0 = some (c.size, e) := by simp [G', Ghost.withRho, Ghost.withH]
  have himm : ∀ b o, G'.imm b o = G.imm b o := fun _ _ => rfl
  have hH : ∀ k l, k ≠ n → G'.H k l = G.H k l := fun k l hk => by simp [G', Ghost.withH, Ghost.withRho, hk]
  have hρ' : ∀ m, m ≠ n → G'.ρ m = G.ρ m := fun m hm => by simp [G', Ghost.withRho, Ghost.withH, hm]
  have own_new : ∀ m b, Own G' g' m b → (m = n ∧ b = w.heap.size) ∨ (m ≠ n ∧ Own G g m b) := by
    intro m b ho
    by_cases hm : m = n
    · subst hm
      rcases ho with ⟨cs', h1, h2⟩ | ⟨te, s, len, cap, h1, h2⟩ | ⟨x', h1, h2⟩
      · rw [hρ] at h2; cases h2; exact .inl ⟨rfl, rfl⟩
      · rw [gself] at h1; cases h1
      · rw [gself] at h1; cases h1
    · refine .inr ⟨hm, ?_⟩
      rcases ho with ⟨cs', h1, h2⟩ | ⟨te, s, len, cap, h1, h2⟩ | ⟨x', h1, h2⟩
      · rw [gne _ (Ne.symm hm)] at h1; rw [hρ' m hm] at h2; exact .inl ⟨cs', h1, h2⟩
      · rw [gne _ (Ne.symm hm)] at h1; rw [hH m _ hm] at h2; exact .inr (.inl ⟨te, s, len, cap, h1, h2⟩)
      · rw [gne _ (Ne.symm hm)] at h1; rw [hρ' m hm] at h2; exact .inr (.inr ⟨x', h1, h2⟩)
  refine ⟨⟨?_, ?_, ?_⟩, ⟨le, rfl, rfl, rfl, by show w.heap.size ≤ (w.heap.push _).size; simp, loops_alloc w _, ?_⟩, hρ, hH0⟩
  · intro b o v hv
    have := h.imm b o v hv
    rw [← this]
    exact cell_congr (World.alloc_heap w _ (cell_lt this))
  · intro m o hm
    by_cases em : n = m
    · subst em
      rw [gself] at hm; cases hm
      exact ⟨w.heap.size, c, e, hρ, heap_alloc_new w _, hr.mono le, fun o => h.imm_new (Nat.le_refl _) o, fun tot e' hh => by rw [hH0] at hh; cases hh; exact ⟨rfl, rfl⟩⟩
    · rw [gne _ em] at hm
      exact (h.obj m o hm).keep le (fun l => hH m l (Ne.symm em)) fun b _ hlt => ⟨World.alloc_heap w _ hlt, fun _ => rfl⟩
  · intro m m' b h1 h2
    rcases own_new m b h1 with ⟨e1, hb⟩ | ⟨_, o1⟩
    · rcases own_new m' b h2 with ⟨e2, _⟩ | ⟨_, o2⟩
      · rw [e1, e2]
      · have := o2.lt h; omega
    · rcases own_new m' b h2 with ⟨_, hb⟩ | ⟨_, o2⟩
      · have := o1.lt h; omega
      · exact h.inj m m' b o1 o2
  · intro b hb hno
    refine ⟨World.alloc_heap w _ hb, fun _ => rfl, ?_⟩
    rintro ⟨m, ho⟩
    rcases own_new m b ho with ⟨_, e⟩ | ⟨_, o1⟩
    · omega
    · exact hno ⟨m, o1⟩

theorem own_gone {G : Ghost} {g : Mem} {n m b : Nat} (ho : Own G (g.put n .gone) m b) : m ≠ n ∧ Own G g m b := by
  by_cases hm : n = m
  · subst hm
    rcases ho with ⟨cs', h1, h2⟩ | ⟨te, s', l', cap', h1, h2⟩ | ⟨x', h1, h2⟩ <;> (rw [Mem.put_self] at h1; cases h1)
  · refine ⟨Ne.symm hm, ?_⟩
    rcases ho with ⟨cs', h1, h2⟩ | ⟨te, s', l', cap', h1, h2⟩ | ⟨x', h1, h2⟩ <;> rw [Mem.put_ne _ hm] at h1
    · exact .inl ⟨cs', h1, h2⟩
    · exact .inr (.inl ⟨te, s', l', cap', h1, h2⟩)
    · exact .inr (.inr ⟨x', h1, h2⟩)
/-- A name is given up. -/
theorem core_gone {G : Ghost} {g : Mem} {w : World} (h : Core G g w) (n : Nat) : Core G (g.put n .gone) w ∧ Ext G g w G (g.put n .gone) w := by
  refine ⟨⟨h.imm, fun m o hm => ?_, fun m m' b o1 o2 => h.inj m m' b (own_gone o1).2 (own_gone o2).2⟩, ⟨.refl G, rfl, rfl, rfl, Nat.le_refl _, fun _ r h => ⟨r, h⟩, fun b hb hno => ⟨rfl, fun _ => rfl, fun ⟨m, ho⟩ => hno ⟨m, (own_gone ho).2⟩⟩⟩⟩
  by_cases e1 : n = m
  · subst e1
    rw [Mem.put_self] at hm; cases hm
    exact trivial
  · rw [Mem.put_ne _ e1] at hm
    exact h.obj m o hm
/-- A block that has room is written, and gets another name. -/
theorem core_pushV {G : Ghost} {g : Mem} {w w' : World} (h : Core G g w) {n n2 b : Nat} (ho : Own G g n b) (himm : ∀ o, G.imm b o = none) {c c' : Array Value} {e : TypeId} (hc : w.heap[b]? = some (.cells c e (0, 0)))
    (hn2 : Fresh G g n2) {cs' : List AVal} (hr : PRel G cs' c') (hsz : c'.size = c.size) (hw : w'.heap[b]? = some (.cells c' e (0, 0))) (hfar : ∀ b', b' ≠ b → w'.heap[b']? = w.heap[b']?) (hos : w'.os = w.os) (htape : w'.tape = w.tape) (hout : w'.output = w.output) (hsize : w'.heap.size = w.heap.size) :
    let G' := (G.withRho n2 b).withH n2 0 (c.size, e)
    let g' := (g.put n .gone).put n2 (.cells cs')
    Core G' g' w' ∧ Ext G g w G' g' w' ∧ G'.ρ n2 = some b ∧ G'.H n2 0 = some (c.size, e) := by
  intro G' g'
  have le : G.le G' := (le_withRho hn2.ρ).trans (le_withH (hn2.H 0))
  have gself : g' n2 = some (.cells cs') := Mem.put_self _ n2 _
  have gne : ∀ m, n2 ≠ m → g' m = (g.put n .gone) m := fun m e => Mem.put_ne _ e
  have hρ : G'.ρ n2 = some b := by simp [G', Ghost.withRho, Ghost.withH]
  have hH0 : G'.H n2 0 = some (c.size, e) := by simp [G', Ghost.withRho, Ghost.withH]
  have hH : ∀ k l, k ≠ n2 → G'.H k l = G.H k l := fun k l hk => by simp [G', Ghost.withH, Ghost.withRho, hk]
  have hρ' : ∀ m, m ≠ n2 → G'.ρ m = G.ρ m := fun m hm => by simp [G', Ghost.withRho, Ghost.withH, hm]
  have own_new : ∀ m b', Own G' g' m b' → (m = n2 ∧ b' = b) ∨ (m ≠ n2 ∧ m ≠ n ∧ Own G g m b') := by
    intro m b' ho
    by_cases hm : m = n2
    · subst hm
      rcases ho with ⟨cs', h1, h2⟩ | ⟨te, s, len, cap, h1, h2⟩ | ⟨x', h1, h2⟩
      · rw [hρ] at h2; cases h2; exact .inl ⟨rfl, rfl⟩
      · rw [gself] at h1; cases h1
      · rw [gself] at h1; cases h1
    · have : Own G (g.put n .gone) m b' := by
        rcases ho with ⟨cs', h1, h2⟩ | ⟨te, s, len, cap, h1, h2⟩ | ⟨x', h1, h2⟩
        · rw [gne _ (Ne.symm hm)] at h1; rw [hρ' m hm] at h2; exact .inl ⟨cs', h1, h2⟩
        · rw [gne _ (Ne.symm hm)] at h1; rw [hH m _ hm] at h2; exact .inr (.inl ⟨te, s, len, cap, h1, h2⟩)
        · rw [gne _ (Ne.symm hm)] at h1; rw [hρ' m hm] at h2; exact .inr (.inr ⟨x', h1, h2⟩)
      exact .inr ⟨hm, own_gone this⟩
  have hoth : ∀ m b', m ≠ n → Own G g m b' → b' ≠ b := fun m b' hm ho' e => by subst e; exact hm (h.inj m n b' ho' ho)
  refine ⟨⟨?_, ?_, ?_⟩, ⟨le, hos, htape, hout, Nat.le_of_eq hsize.symm, fun b' r hb' => ⟨r, (hfar b' (by rintro rfl; rw [hc] at hb'; cases hb')).trans hb'⟩, ?_⟩, hρ, hH0⟩
  · intro b' o u hu
    have hu' : G.imm b' o = some u := hu
    have hne : b' ≠ b := by rintro rfl; rw [himm o] at hu'; cases hu'
    rw [cell_congr (hfar b' hne)]
    exact h.imm b' o u hu'
  · intro m o hm
    by_cases em : n2 = m
    · subst em
      rw [gself] at hm; cases hm
      exact ⟨b, c', e, hρ, hw, hr.mono le, himm, fun tot e' hh => by rw [hH0] at hh; cases hh; exact ⟨hsz.symm, rfl⟩⟩
    · rw [gne _ em] at hm
      by_cases en : n = m
      · subst en
        rw [Mem.put_self] at hm; cases hm; exact trivial
      · rw [Mem.put_ne _ en] at hm
        have hob := h.obj m o hm
        have hmm : m ≠ n := Ne.symm en
        have hm2 : m ≠ n2 := Ne.symm em
        cases o with
        | cells cs2 =>
          obtain ⟨b2, c2, t2, k1, k2, k3, k4⟩ := hob
          have hne := hoth m b2 hmm (.inl ⟨cs2, hm, k1⟩)
          exact ⟨b2, c2, t2, le.ρ k1, (hfar b2 hne).trans k2, k3.mono le, k4.1, fun tot e hh => k4.2 tot e ((hH m 0 hm2).symm.trans hh)⟩
        | ro cs2 =>
          obtain ⟨b2, k1, k2⟩ := hob
          exact ⟨b2, le.ρ k1, fun j c hj => let ⟨v, a, r⟩ := k2 j c hj; ⟨v, a, r.mono le⟩⟩
        | gone => exact trivial
        | full k len => exact let ⟨b2, k1⟩ := hob; ⟨b2, le.H k1⟩
        | tok te s len =>
          rcases hob with ⟨z1, z2⟩ | ⟨b2, cap, c2, k1, k2, k3, k4, k5, k6⟩
          · exact .inl ⟨z1, fun l => (hH m l hm2).trans (z2 l)⟩
          have hne := hoth m b2 hmm (.inr (.inl ⟨te, s, len, cap, hm, k1⟩))
          exact .inr ⟨b2, cap, c2, le.H k1, (hfar b2 hne).trans k2, k3, k4, k5, fun l hl => (hH m l hm2).trans (k6 l hl)⟩
        | oth x' =>
          obtain ⟨b2, ob2, k1, k2, k3, k4⟩ := hob
          have hne := hoth m b2 hmm (.inr (.inr ⟨x', hm, k1⟩))
          exact ⟨b2, ob2, le.ρ k1, (hfar b2 hne).trans k2, k3.mono le, k4⟩
  · intro m m' b' h1 h2
    rcases own_new m b' h1 with ⟨e1, hb⟩ | ⟨_, hn1, o1⟩
    · rcases own_new m' b' h2 with ⟨e2, _⟩ | ⟨_, hn2', o2⟩
      · rw [e1, e2]
      · exact absurd hb (hoth m' b' hn2' o2)
    · rcases own_new m' b' h2 with ⟨_, hb⟩ | ⟨_, _, o2⟩
      · exact absurd hb (hoth m b' hn1 o1)
      · exact h.inj m m' b' o1 o2
  · intro b' hb' hno
    have hne : b' ≠ b := by rintro rfl; exact hno ⟨n, ho⟩
    refine ⟨hfar b' hne, fun _ => rfl, ?_⟩
    rintro ⟨m, hm⟩
    rcases own_new m b' hm with ⟨_, e⟩ | ⟨_, _, o1⟩
    · exact hne e
    · exact hno ⟨m, o1⟩

/-- What is known of a row's room. -/
theorem core_full {G : Ghost} {g : Mem} {w : World} (h : Core G g w) {n : Nat} (hn : Fresh G g n) {k len b : Nat} (hH : G.H k len = some (b, len)) :
    Core G (g.put n (.full k len)) w ∧ Ext G g w G (g.put n (.full k len)) w := by
  have gself : (g.put n (.full k len)) n = some (.full k len) := Mem.put_self g n _
  have gne : ∀ m, n ≠ m → (g.put n (.full k len)) m = g m := fun m e => Mem.put_ne _ e
  have hown : ∀ m b, Own G (g.put n (.full k len)) m b → Own G g m b := by
    intro m b ho
    by_cases hm : n = m
    · subst hm
      rcases ho with ⟨cs', h1, h2⟩ | ⟨te, s', l', cap', h1, h2⟩ | ⟨x', h1, h2⟩ <;> (rw [gself] at h1; cases h1)
    · rcases ho with ⟨cs', h1, h2⟩ | ⟨te, s', l', cap', h1, h2⟩ | ⟨x', h1, h2⟩
      · rw [gne _ hm] at h1; exact .inl ⟨cs', h1, h2⟩
      · rw [gne _ hm] at h1; exact .inr (.inl ⟨te, s', l', cap', h1, h2⟩)
      · rw [gne _ hm] at h1; exact .inr (.inr ⟨x', h1, h2⟩)
  refine ⟨⟨h.imm, fun m o hm => ?_, fun m m' b o1 o2 => h.inj m m' b (hown m b o1) (hown m' b o2)⟩, ⟨.refl G, rfl, rfl, rfl, Nat.le_refl _, fun _ r h => ⟨r, h⟩, fun b hb hno => ⟨rfl, fun _ => rfl, fun ⟨m, ho⟩ => hno ⟨m, hown m b ho⟩⟩⟩⟩
  by_cases e1 : n = m
  · subst e1
    rw [gself] at hm; cases hm
    exact ⟨b, hH⟩
  · rw [gne _ e1] at hm
    exact h.obj m o hm

/-- A draw changes nothing of it. -/
theorem Core.drew {G : Ghost} {g : Mem} {w : World} (h : Core G g w) : Core G g w.drew := ⟨h.imm, h.obj, h.inj⟩
theorem Ext.drewL {G G' : Ghost} {g g' : Mem} {w w' : World} (h : Ext G g w.drew G' g' w') : Ext G g w G' g' w' := ⟨h.le, h.os, h.tape, h.output, h.size, h.loops, h.keep⟩
end Go.Proofs.Ytgijgcmcpgepaaa.Eng
