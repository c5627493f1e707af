/-
  ENGINE, G: operations fit: rows, growing lists.
-/
import Derived.Test.YtgijgcmcpgepaaaEngF
import Derived.Laws.MakeOwn
import Derived.Great.BuildSlice
import Derived.Laws.OwnMore
namespace Go.Proofs.Ytgijgcmcpgepaaa.Eng
set_option linter.unusedSimpArgs false
set_option linter.unusedVariables false
section
variable {P : Program} {G : Ghost} {σ : Store} {w : World} {tm : List AVal} {a : Act}

theorem setR_length : ∀ (l cs : List AVal) (i : Nat), (setR cs i l).length = cs.length
  | [], cs, i => rfl
  | x :: l, cs, i => by simp only [setR]; rw [setR_length l]; simp

theorem setR_rel : ∀ (l : List AVal) (vs : List Value) (cs : List AVal) (c : Array Value) (off k : Nat), ARel G cs c → ARel G l vs.toArray →
    ARel G (setR cs (off + k) l) ((vs.zipIdx k).foldl (fun cs (x : Value × Nat) => cs.setIfInBounds (off + x.2) x.1) c) := by
  intro l
  induction l with
  | nil =>
    intro vs cs c off k h hr
    have : vs = [] := by have := hr.len; simp at this; exact List.eq_nil_of_length_eq_zero this.symm
    subst this
    exact h
  | cons x l ih =>
    intro vs cs c off k h hr
    match vs, hr with
    | [], hr => have := hr.len; simp at this
    | v :: vs, hr =>
      have hv : VRel G x v := hr.val 0 x v (by simp) (by simp)
      have hr' : ARel G l vs.toArray := ⟨by have := hr.len; simpa using this, fun j y u e1 e2 => hr.val (j + 1) y u (by simpa using e1) (by simpa using e2)⟩
      simp only [setR, List.zipIdx_cons, List.foldl_cons]
      exact ih vs _ _ off (k + 1) (h.set hv (off + k)) hr'

/-- Parts as operands, with their places. -/
inductive PFit (pl : Nat → Option (Nat × Nat)) : List (Nat × Operand) → List (Nat × Nat × XOpd) → Prop
  | nil : PFit pl [] []
  | cons {i p off sz x l m} : pl i = some (off, sz) → OFit p x → PFit pl l m → PFit pl ((i, p) :: l) ((off, sz, x) :: m)

theorem fill_rel {pl : Nat → Option (Nat × Nat)} {l : List (Nat × Operand)} {m : List (Nat × Nat × XOpd)} (h : PFit pl l m) (hr : ARel G tm a.tmps) : ∀ (cs : List AVal) (c : Array Value) (cs' : List AVal), ARel G cs c → fillR cs (m.map fun p => (p.1, p.2.1, XOpd.eval tm p.2.2)) = some cs' →
    ∃ c', Instr.fill pl c (l.map fun p => (p.1, a.eval p.2)) = some c' ∧ ARel G cs' c' ∧ cs'.length = cs.length := by
  induction h with
  | nil => intro cs c cs' h1 h2; simp only [List.map_nil, fillR] at h2; cases h2; exact ⟨c, rfl, h1, rfl⟩
  | cons hp hx _ ih =>
    rename_i i p off sz x l m _
    intro cs c cs' h1 h2
    simp only [List.map_cons, fillR] at h2
    split at h2 <;> try (cases h2; done)
    rename_i hc
    have hv := (hx.rel hr).cells
    have hsz : (a.eval p).cells.size = sz := by rw [← hv.len]; exact hc.1
    have hle : off + sz ≤ c.size := by rw [← h1.len]; exact hc.2
    have h3 := setR_rel (G := G) (x.eval tm).cells (a.eval p).cells.toList cs c off 0 h1 (by simpa using hv)
    obtain ⟨c', k1, k2, k3⟩ := ih _ _ cs' h3 h2
    refine ⟨c', ?_, k2, by rw [k3, setR_length]⟩
    simp only [List.map_cons, Instr.fill, hp]
    have hn : ¬ (((a.eval p).cells.size ≠ sz || decide (off + (a.eval p).cells.size > c.size)) = true) := by
      simp [hsz]; omega
    rw [if_neg (by simpa using hn)]
    have e : (Array.foldl (fun cs (x : Value × Nat) => cs.setIfInBounds (off + x.2) x.1) c (a.eval p).cells.zipIdx) = (((a.eval p).cells.toList.zipIdx 0).foldl (fun cs (x : Value × Nat) => cs.setIfInBounds (off + x.2) x.1) c) := by
      rw [← Array.foldl_toList]; simp
    exact e ▸ k1

theorem ok_buildS (c : At G σ w tm a) {o : Oper} {t : TypeId} {ps : List (Nat × Operand)} {xs : List (Nat × Nat × XOpd)} {it : TypeInfo} {z : Value} {fs : Array Field} {places : List (Nat × Nat)} {zero : List AVal}
    (ho : o.op = .build t ps.toArray) (hi : P.info? t = some it) (hu : P.underlying t = some (.struct fs)) (hz : it.zero = some z) (hpl : fs.toList.mapM (fun f => (P.info? f.type).map fun i => (f.offset, i.size)) = some places) (hzr : ∀ G, ARel G zero z.cells)
    (hp : PFit (places[·]?) ps xs) {r : XRes} (hx : xop (.build zero xs) tm σ = some r) : OpOk P o a G σ w r := by
  simp only [xop] at hx
  split at hx <;> try (cases hx; done)
  rename_i cs hf
  cases hx
  obtain ⟨c', k1, k2, k3⟩ := fill_rel hp c.rel zero z.cells cs (hzr G) hf
  refine OpOk.pure c.core (v' := .agg c') ?_ (VRel.mk_agg k2)
  have hb : P.built t (ps.toArray.map fun (x : Nat × Operand) => (x.1, a.eval x.2)).toList = some c' := by
    simp only [Program.built, hi, hu, hz, hpl]
    simpa using k1
  have := run_build (P := P) w t (ps.toArray.map fun (x : Nat × Operand) => (x.1, a.eval x.2)) c' hb
  simp only [execOp, ho, Sem.run_bind, this]
  rfl

theorem ok_buildA (c : At G σ w tm a) {o : Oper} {t e : TypeId} {n : Nat} {ps : List (Nat × Operand)} {xs : List (Nat × Nat × XOpd)} {it ie : TypeInfo} {z : Value} {zero : List AVal}
    (ho : o.op = .build t ps.toArray) (hi : P.info? t = some it) (hu : P.underlying t = some (.array n e)) (hz : it.zero = some z) (he : P.info? e = some ie) (hzr : ∀ G, ARel G zero z.cells)
    (hp : PFit (fun i => some (i * ie.size, ie.size)) ps xs) {r : XRes} (hx : xop (.build zero xs) tm σ = some r) : OpOk P o a G σ w r := by
  simp only [xop] at hx
  split at hx <;> try (cases hx; done)
  rename_i cs hf
  cases hx
  obtain ⟨c', k1, k2, k3⟩ := fill_rel hp c.rel zero z.cells cs (hzr G) hf
  refine OpOk.pure c.core (v' := .agg c') ?_ (VRel.mk_agg k2)
  have hb : P.built t (ps.toArray.map fun (x : Nat × Operand) => (x.1, a.eval x.2)).toList = some c' := by
    simp only [Program.built, hi, hu, hz, he]
    simpa using k1
  have := run_build (P := P) w t (ps.toArray.map fun (x : Nat × Operand) => (x.1, a.eval x.2)) c' hb
  simp only [execOp, ho, Sem.run_bind, this]
  rfl

theorem one_cells {x : AVal} (h : x.one = true) : x.cells = [x] := by
  cases x <;> first | rfl | (simp [AVal.one] at h)

theorem mkV_cells {agg : Bool} {cs : List AVal} {v : AVal} (h : mkV agg cs = some v) : v.cells = cs := by
  unfold mkV at h
  split at h
  · cases h; rfl
  · split at h <;> try (cases h; done)
    split at h <;> try (cases h; done)
    rename_i h1
    cases h
    exact one_cells h1

theorem chunks_get {agg : Bool} {s : Nat} : ∀ (n : Nat) (cs xs : List AVal), chunks agg s n cs = some xs → xs.length = n ∧ ∀ (i : Nat) (x : AVal), xs[i]? = some x → x.cells = (cs.drop (i * s)).take s
  | 0, cs, xs, h => by simp only [chunks] at h; cases h; exact ⟨rfl, fun i x h => by simp at h⟩
  | n + 1, cs, xs, h => by
    simp only [chunks] at h
    split at h <;> try (cases h; done)
    rename_i v hv
    split at h <;> try (cases h; done)
    rename_i l hl
    cases h
    obtain ⟨k1, k2⟩ := chunks_get n (cs.drop s) l hl
    refine ⟨by simp [k1], fun i x hx => ?_⟩
    cases i with
    | zero => simp at hx; subst hx; simpa using mkV_cells hv
    | succ i =>
      have := k2 i x (by simpa using hx)
      rw [this, List.drop_drop]
      congr 2
      rw [Nat.succ_mul]; omega

/-- The cells of an element of a row. -/
theorem chunk_cell {s n : Nat} {cs : List AVal} (hl : n * s ≤ cs.length) {i : Nat} (hi : i < n) {x : AVal} (hx : x.cells = (cs.drop (i * s)).take s) : x.cells.length = s ∧ ∀ (j : Nat) (c : AVal), x.cells[j]? = some c → j < s ∧ cs[i * s + j]? = some c := by
  have hle : i * s + s ≤ n * s := by
    have : (i + 1) * s ≤ n * s := Nat.mul_le_mul_right s hi
    rw [Nat.succ_mul] at this; exact this
  have hlen : x.cells.length = s := by rw [hx]; simp; omega
  refine ⟨hlen, fun j c hj => ?_⟩
  have hjs : j < s := by
    have := (List.getElem?_eq_some_iff.1 hj).1
    omega
  rw [hx, List.getElem?_take_of_lt hjs, List.getElem?_drop] at hj
  exact ⟨hjs, hj⟩

/-- A row of cells as a growing list. -/
theorem list_of_row {k b cap s : Nat} {xs : List AVal} (c : Array Value) (hcap : xs.length ≤ cap) (hH : G.H k xs.length = some (b, cap))
    (hs : ∀ (i : Nat) (x : AVal), xs[i]? = some x → x.cells.length = s)
    (hI : ∀ o v, o < xs.length * s → c[o]? = some v → G.imm b o = some v)
    (hv : ∀ (i : Nat) (x : AVal) (j : Nat) (cc : AVal), xs[i]? = some x → x.cells[j]? = some cc → ∃ u, c[i * s + j]? = some u ∧ VRel G cc u) :
    VRel G (.list s xs (some k)) (.slice (some ⟨b, 0, none⟩) xs.length cap) := by
  refine .list s xs (some k) b 0 cap (fun i j => (c[i * s + j]?).getD undef) hcap hs (fun i x j cc h1 h2 => ?_) (fun i x j cc h1 h2 => ?_) (fun k' hk => by cases hk; exact ⟨rfl, hH⟩)
  · obtain ⟨u, e1, _⟩ := hv i x j cc h1 h2
    have hi : i < xs.length := (List.getElem?_eq_some_iff.1 h1).1
    have hj : j < s := by have := (List.getElem?_eq_some_iff.1 h2).1; rw [hs i x h1] at this; exact this
    have hle : i * s + s ≤ xs.length * s := by
      have : (i + 1) * s ≤ xs.length * s := Nat.mul_le_mul_right s hi
      rw [Nat.succ_mul] at this; exact this
    rw [Nat.zero_add, e1]
    exact hI _ u (by omega) e1
  · obtain ⟨u, e1, e2⟩ := hv i x j cc h1 h2
    rw [e1]; exact e2

theorem ok_buildSlice (c : At G σ w tm a) {o : Oper} {t e : TypeId} {len : Nat} {agg : Bool} {ps : List (Nat × Operand)} {xs : List (Nat × Nat × XOpd)} {ie : TypeInfo} {z : Value} {zero : List AVal}
    (ho : o.op = .buildSlice t len ps.toArray) (hu : P.underlying t = some (.slice e)) (hi : P.info? e = some ie) (hz : ie.zero = some z) (hsmall : len * ie.size ≤ 2 ^ 24)
    (hzr : ∀ G, ARel G zero ((Array.range (len * ie.size)).map (z.cells[· % z.cells.size]!)))
    (hp : PFit (fun i => some (i * ie.size, ie.size)) ps xs) {r : XRes} (hx : xop (.buildSlice e ie.size len agg zero xs) tm σ = some r) (hn : News G σ (r.nx σ)) : OpOk P o a G σ w r := by
  simp only [xop] at hx
  split at hx <;> try (cases hx; done)
  rename_i cs hf
  split at hx <;> try (cases hx; done)
  rename_i hlen
  obtain ⟨hlen, hs0⟩ := hlen
  split at hx <;> try (cases hx; done)
  rename_i l hl
  cases hx
  obtain ⟨c', k1, k2, k3⟩ := fill_rel hp c.rel zero _ cs (hzr G) hf
  obtain ⟨q1, q2⟩ := chunks_get _ _ _ hl
  have hgr : Grows G σ.next len := fun l _ => (hn _ (Nat.le_refl _) (Nat.lt_succ_self _)).H l
  obtain ⟨G', g1, g2, g2', g3, g4, g5, g6⟩ := core_row c.core hgr e ie.size len c' (by rw [← k2.len, hlen]) (Nat.le_refl _)
  have hm : Moved G σ w G' (σ.new (.tok e ie.size len)) (w.alloc (.cells c' e)) := by
    refine ⟨by rw [Store.get_new]; exact g3, by rw [Store.get_new]; exact g4, Nat.le_succ _, fun m hm hfr => ?_⟩
    have hne : m ≠ σ.next := by simp [Store.new] at hm; omega
    refine ⟨by rw [g1], fun l => g2 m l hne, ?_⟩
    rw [Store.get_new, Mem.put_ne _ (Ne.symm hne)]; exact hfr
  have k2' := k2.mono g4.le
  refine ⟨.slice (some ⟨w.heap.size, 0, none⟩) len len, w.alloc (.cells c' e), G', .inl ?_, ?_, hm⟩
  · have hps : (ps.toArray.map fun (x : Nat × Operand) => (x.1, a.eval x.2)).toList = ps.map fun x => (x.1, a.eval x.2) := by simp
    have hb : (Instr.buildSlice t len (ps.toArray.map fun (x : Nat × Operand) => (x.1, a.eval x.2))).run P w = .ok (.slice (some ⟨w.heap.size, 0, none⟩) len len) (w.alloc (.cells c' e)) := by
      by_cases h0 : len * ie.size = 0
      · have hc0 : c' = #[] := by
          apply Array.eq_empty_of_size_eq_zero
          rw [← k2.len, hlen, h0]
        have k1' : Instr.fill (fun i => some (i * ie.size, ie.size)) #[] (ps.map fun x => (x.1, a.eval x.2)) = some c' := by
          have : (Array.range (len * ie.size)).map (z.cells[· % z.cells.size]!) = #[] := by rw [h0]; simp
          rw [this] at k1; exact k1
        have hl0 : len = 0 := by
          rcases Nat.mul_eq_zero.1 h0 with h | h
          · exact h
          · omega
        subst hl0
        have hr0 : Array.range 0 = #[] := rfl
        simp [Instr.buildSlice, run_underlying hu, sizeOf_run hi, hr0, k1', newRow]
      · exact run_buildSlice w t e len _ c' ie z hu hi hz (by omega) h0 (by rw [hps]; exact k1)
    simp only [execOp, ho, Sem.run_bind, hb]
    rfl
  · rw [← q1] at g5 ⊢
    refine list_of_row (s := ie.size) c' (Nat.le_refl _) g5 (fun i x hx => ?_) (by rw [q1]; exact g6) (fun i x j cc h1 h2 => ?_)
    · have hi' := (List.getElem?_eq_some_iff.1 hx).1
      exact (chunk_cell (n := len) (by rw [hlen]; exact Nat.le_refl _) (by omega) (q2 i x hx)).1
    · have hi' := (List.getElem?_eq_some_iff.1 h1).1
      obtain ⟨_, h3⟩ := (chunk_cell (n := len) (by rw [hlen]; exact Nat.le_refl _) (by omega) (q2 i x h1)).2 j cc h2
      exact k2'.get h3

theorem ok_buildSliceF (c : At G σ w tm a) {o : Oper} {t e : TypeId} {len : Nat} {agg : Bool} {ps : List (Nat × Operand)} {xs : List (Nat × Nat × XOpd)} {ie : TypeInfo} {z : Value} {zero : List AVal}
    (ho : o.op = .buildSlice t len ps.toArray) (hu : P.underlying t = some (.slice e)) (hi : P.info? e = some ie) (hz : ie.zero = some z) (hsmall : len * ie.size ≤ 2 ^ 24)
    (hzr : ∀ G, ARel G zero ((Array.range (len * ie.size)).map (z.cells[· % z.cells.size]!)))
    (hp : PFit (fun i => some (i * ie.size, ie.size)) ps xs) {r : XRes} (hx : xop (.buildSliceF e ie.size len agg zero xs) tm σ = some r) (hn : News G σ (r.nx σ)) : OpOk P o a G σ w r := by
  simp only [xop] at hx
  split at hx <;> try (cases hx; done)
  rename_i cs hf
  split at hx <;> try (cases hx; done)
  rename_i hlen
  obtain ⟨hlen, hs0⟩ := hlen
  split at hx <;> try (cases hx; done)
  rename_i l hl
  cases hx
  obtain ⟨c', k1, k2, k3⟩ := fill_rel hp c.rel zero _ cs (hzr G) hf
  obtain ⟨q1, q2⟩ := chunks_get _ _ _ hl
  have hgr : Grows G σ.next len := fun l _ => (hn _ (Nat.le_refl _) (by show σ.next < σ.next + 1 + 1; omega)).H l
  obtain ⟨G', g1, g2, g2', g3, g4, g5, g6⟩ := core_row c.core hgr e ie.size len c' (by rw [← k2.len, hlen]) (Nat.le_refl _)
  have hm : Moved G σ w G' (σ.new (.tok e ie.size len)) (w.alloc (.cells c' e)) := by
    refine ⟨by rw [Store.get_new]; exact g3, by rw [Store.get_new]; exact g4, Nat.le_succ _, fun m hm hfr => ?_⟩
    have hne : m ≠ σ.next := by simp [Store.new] at hm; omega
    refine ⟨by rw [g1], fun l => g2 m l hne, ?_⟩
    rw [Store.get_new, Mem.put_ne _ (Ne.symm hne)]; exact hfr
  have k2' := k2.mono g4.le
  have hm2 : Moved G σ w G' ((σ.new (.tok e ie.size len)).new (.full σ.next len)) (w.alloc (.cells c' e)) := by
    have hfr : Fresh G' (σ.new (.tok e ie.size len)).get (σ.next + 1) := hm.fresh (σ.next + 1) (.inr (Nat.le_refl _)) (hn _ (Nat.le_succ _) (by show σ.next + 1 < σ.next + 1 + 1; omega))
    obtain ⟨q1, q2⟩ := core_full hm.core hfr g5
    have eg := Store.get_new (σ.new (.tok e ie.size len)) (.full σ.next len)
    refine hm.trans ⟨by rw [eg]; exact q1, by rw [eg]; exact q2, Nat.le_succ _, fun m hm' hf => ⟨rfl, fun _ => rfl, ?_⟩⟩
    have hne : (σ.new (.tok e ie.size len)).next ≠ m := by simp [Store.new] at hm' ⊢; omega
    rw [eg, Mem.put_ne _ hne]; exact hf
  refine ⟨.slice (some ⟨w.heap.size, 0, none⟩) len len, w.alloc (.cells c' e), G', .inl ?_, ?_, hm2⟩
  · have hps : (ps.toArray.map fun (x : Nat × Operand) => (x.1, a.eval x.2)).toList = ps.map fun x => (x.1, a.eval x.2) := by simp
    have hb : (Instr.buildSlice t len (ps.toArray.map fun (x : Nat × Operand) => (x.1, a.eval x.2))).run P w = .ok (.slice (some ⟨w.heap.size, 0, none⟩) len len) (w.alloc (.cells c' e)) := by
      by_cases h0 : len * ie.size = 0
      · have hc0 : c' = #[] := by
          apply Array.eq_empty_of_size_eq_zero
          rw [← k2.len, hlen, h0]
        have k1' : Instr.fill (fun i => some (i * ie.size, ie.size)) #[] (ps.map fun x => (x.1, a.eval x.2)) = some c' := by
          have : (Array.range (len * ie.size)).map (z.cells[· % z.cells.size]!) = #[] := by rw [h0]; simp
          rw [this] at k1; exact k1
        have hl0 : len = 0 := by
          rcases Nat.mul_eq_zero.1 h0 with h | h
          · exact h
          · omega
        subst hl0
        have hr0 : Array.range 0 = #[] := rfl
        simp [Instr.buildSlice, run_underlying hu, sizeOf_run hi, hr0, k1', newRow]
      · exact run_buildSlice w t e len _ c' ie z hu hi hz (by omega) h0 (by rw [hps]; exact k1)
    simp only [execOp, ho, Sem.run_bind, hb]
    rfl
  · rw [← q1] at g5 ⊢
    refine list_of_row (s := ie.size) c' (Nat.le_refl _) g5 (fun i x hx => ?_) (by rw [q1]; exact g6) (fun i x j cc h1 h2 => ?_)
    · have hi' := (List.getElem?_eq_some_iff.1 hx).1
      exact (chunk_cell (n := len) (by rw [hlen]; exact Nat.le_refl _) (by omega) (q2 i x hx)).1
    · have hi' := (List.getElem?_eq_some_iff.1 h1).1
      obtain ⟨_, h3⟩ := (chunk_cell (n := len) (by rw [hlen]; exact Nat.le_refl _) (by omega) (q2 i x h1)).2 j cc h2
      exact k2'.get h3

theorem ok_sliceArr (c : At G σ w tm a) {o : Oper} {p : Operand} {x : XOpd} {t e : TypeId} {n : Nat} {agg : Bool} {i : TypeInfo} (ho : o.op = .slice t p none none none) (ht : P.underlying t = some (.array n e)) (hi : P.info? e = some i) (hp : OFit p x) {r : XRes} (hx : xop (.sliceArr i.size n agg x) tm σ = some r) : OpOk P o a G σ w r := by
  have h1 := hp.rel c.rel
  simp only [xop] at hx
  generalize hu : a.eval p = u at h1
  have hrun : ∀ b q, u = .pointer (some ⟨b, q, none⟩) → (execOp a.eval o).run P w = .ok (.value (.slice (some ⟨b, q, none⟩) n n)) w := fun b q e => by
    by_cases hn : n = 0 <;> simp [execOp, ho, hu, e, Instr.sliceAt, run_underlying ht, Instr.sureAddr, Instr.sliceBounds, sizeOf_run hi, addr_add, hn]
  split at hx <;> try (cases hx; done)
  · rename_i cs off e1
    split at hx <;> try (cases hx; done)
    rename_i hc
    split at hx <;> try (cases hx; done)
    rename_i xs hl
    cases hx
    rw [e1] at h1
    cases h1 with
    | iptr _ _ b q f hI hv =>
      obtain ⟨q1, q2⟩ := chunks_get _ _ _ hl
      have hlen : n * i.size ≤ (cs.drop off).length := by simp; omega
      have hcell : ∀ (j : Nat) (y : AVal) (l : Nat) (cc : AVal), xs[j]? = some y → y.cells[l]? = some cc → cs[off + (j * i.size + l)]? = some cc := fun j y l cc hj hl' => by
        have hjn := (List.getElem?_eq_some_iff.1 hj).1
        have := ((chunk_cell hlen (by omega) (q2 j y hj)).2 l cc hl').2
        rw [List.getElem?_drop] at this
        exact this
      refine OpOk.pure c.core (hrun b _ rfl) ?_
      rw [← q1]
      refine .list i.size xs none b (q + off) _ (fun j l => f (off + (j * i.size + l))) (Nat.le_refl _) (fun j y hj => ?_) (fun j y l cc hj hl' => ?_) (fun j y l cc hj hl' => hv _ cc (hcell j y l cc hj hl')) (fun _ h => by cases h)
      · have hjn := (List.getElem?_eq_some_iff.1 hj).1
        exact (chunk_cell hlen (by omega) (q2 j y hj)).1
      · rw [show q + off + j * i.size + l = q + (off + (j * i.size + l)) from by omega]
        exact hI _ cc (hcell j y l cc hj hl')
  · rename_i m off e1
    cases hx
    rw [e1] at h1
    cases h1 with
    | ptr _ _ b hn => exact OpOk.pure c.core (hrun b _ rfl) (.mlist _ _ _ _ b n hn (Nat.le_refl _))
theorem madeL_rel {z : Value} {zero : List AVal} (hz : ARel G zero z.cells) (h0 : 0 < z.cells.size) (n : Nat) : ARel G (madeL zero n) (madeCells z.cells n) := by
  have hl := hz.len
  refine ⟨by simp [madeL, madeCells], fun i x v h1 h2 => ?_⟩
  have hi : i < n := by
    have := (List.getElem?_eq_some_iff.1 h1).1
    simpa [madeL] using this
  have hlt : i % zero.length < zero.length := Nat.mod_lt _ (by omega)
  simp [madeL, hi] at h1
  simp [madeCells, hi] at h2
  subst h1; subst h2
  refine hz.val (i % zero.length) _ _ ?_ ?_
  · rw [List.getElem?_eq_getElem hlt]; simp
  · rw [← hl, getElem!_pos _ _ (by omega)]; simp

theorem ok_makeSlice (c : At G σ w tm a) {o : Oper} {p q : Operand} {x y : XOpd} {t e : TypeId} {i : TypeInfo} {z : Value} {zero : List AVal} (ho : o.op = .makeSlice t p q) (ht : P.underlying t = some (.slice e)) (hi : P.info? e = some i) (hz : i.zero = some z)
    (hzr : ∀ G, ARel G zero z.cells) (h0 : 0 < z.cells.size) (hp : OFit p x) (hq : OFit q y) {r : XRes} (hx : xop (.makeS e i.size i.bytes zero x y) tm σ = some r) (hn : News G σ (r.nx σ)) : OpOk P o a G σ w r := by
  simp only [xop] at hx
  split at hx <;> try (cases hx; done)
  rename_i n m e1 e2
  split at hx <;> try (cases hx; done)
  rename_i hc
  obtain ⟨rfl, hb, h63⟩ := hc
  cases hx
  obtain ⟨k1, hk1⟩ := idx_rel (hp.rel c.rel) e1
  obtain ⟨k2, hk2⟩ := idx_rel (hq.rel c.rel) e2
  obtain ⟨G', hm, hr⟩ := moved_new c.core (hn _ (Nat.le_refl _) (Nat.lt_succ_self _)) (madeL_rel (hzr G) h0 (n * i.size)) e
  refine ⟨.slice (some ⟨w.heap.size, 0, none⟩) n n, w.alloc (.cells (madeCells z.cells (n * i.size)) e), G', .inl ?_, .mlist _ _ _ _ _ _ hr (Nat.le_refl _), hm⟩
  have hrun := run_make (P := P) w t e i z ht hi hz k1 k2 n n (by omega) (Int.le_refl _) (by rw [← Int.natCast_mul]; omega) (by omega)
  simp only [Int.toNat_natCast] at hrun
  simp [execOp, ho, hk1, hk2, hrun]

/-- A row is written no more. -/
theorem ok_movf (c : At G σ w tm a) {o : Oper} {p : Operand} {x : XOpd} (ho : o.op = .move p ∨ o.op = .assign p) (hp : OFit p x) {r : XRes} (hx : xop (.movf x) tm σ = some r) : OpOk P o a G σ w r := by
  have h1 := (hp.rel c.rel).down
  have hrun : (execOp a.eval o).run P w = .ok (.value (a.eval p)) w := by
    rcases ho with ho | ho <;> simp [execOp, ho]
  simp only [xop] at hx
  obtain ⟨⟨y, τ⟩, hx, rfl⟩ := map_some hx
  simp only
  unfold xmovf at hx
  split at hx
  · rename_i s n off len e1
    split at hx <;> try (cases hx; done)
    rename_i cs hg
    split at hx <;> try (cases hx; done)
    rename_i hc
    split at hx <;> try (cases hx; done)
    rename_i xs hl
    cases hx
    rw [e1] at h1
    obtain ⟨hs, hlen0, _⟩ := hc
    generalize hu : a.eval p = u at h1 hrun
    cases h1 with
    | mlist _ _ _ _ b cap hn hcap =>
      obtain ⟨G2, q1, q2, q3, q4, q5⟩ := core_freeze c.core hg hn
      have m2 : Moved G σ w G2 (σ.put n (.ro cs)) w := by
        refine ⟨by rw [Store.get_put]; exact q3, by rw [Store.get_put]; exact q4, Nat.le_refl _, fun k _ hf => ⟨by rw [q1], fun l => by rw [q2], ?_⟩⟩
        have hne : n ≠ k := by rintro rfl; rw [hf] at hg; cases hg
        rw [Store.get_put, Mem.put_ne _ hne]; exact hf
      refine ⟨_, w, G2, .inl hrun, ?_, m2⟩
      obtain ⟨k1, k2⟩ := chunks_get _ _ _ hl
      have hlen : len * s ≤ (cs.drop off).length := by simp; omega
      have hcell : ∀ (j : Nat) (y : AVal) (l : Nat) (cc : AVal), xs[j]? = some y → y.cells[l]? = some cc → cs[off + (j * s + l)]? = some cc := fun j y l cc hj hl' => by
        have hjn := (List.getElem?_eq_some_iff.1 hj).1
        have := ((chunk_cell hlen (by omega) (k2 j y hj)).2 l cc hl').2
        rw [List.getElem?_drop] at this
        exact this
      rw [← k1]
      refine .list s xs none b off cap (fun j l => (G2.imm b (off + (j * s + l))).getD undef) (by omega) (fun j y hj => ?_) (fun j y l cc hj hl' => ?_) (fun j y l cc hj hl' => ?_) (fun _ h => by cases h)
      · have hjn := (List.getElem?_eq_some_iff.1 hj).1
        exact (chunk_cell hlen (by omega) (k2 j y hj)).1
      · obtain ⟨u, a1, a2⟩ := q5 _ cc (hcell j y l cc hj hl')
        rw [show off + j * s + l = off + (j * s + l) from by omega, a1]; rfl
      · obtain ⟨u, a1, a2⟩ := q5 _ cc (hcell j y l cc hj hl')
        rw [a1]; exact a2
  · cases hx
    exact OpOk.pure c.core hrun h1
end
end Go.Proofs.Ytgijgcmcpgepaaa.Eng
