/-
  ENGINE, K: values that hold no names; values where nothing is written any more.
-/
import Derived.Test.YtgijgcmcpgepaaaEngJ
namespace Go.Proofs.Ytgijgcmcpgepaaa.Eng
set_option linter.unusedSimpArgs false
set_option linter.unusedVariables false

theorem stripL_get : ∀ (l : List AVal) (i : Nat), (stripL l)[i]? = (l[i]?).map AVal.strip
  | [], i => by simp [stripL]
  | x :: l, 0 => by simp [stripL]
  | x :: l, i + 1 => by simp [stripL, stripL_get l i]
theorem stripL_length : ∀ (l : List AVal), (stripL l).length = l.length
  | [] => by simp [stripL]
  | x :: l => by simp [stripL, stripL_length l]
theorem strip_cells (x : AVal) : x.strip.cells = stripL x.cells := by
  cases x <;> simp [AVal.strip, AVal.cells, stripL]

theorem strip_rel {G : Ghost} {x : AVal} {v : Value} (h : VRel G x v) : VRel G x.strip v := by
  induction h with
  | bool b => exact .bool b
  | int k n => exact .int k n
  | str s => exact .str s
  | nils => exact .nils
  | list s xs tok b o cap f hcap hs hI hv ht ih =>
    have key : ∀ (i : Nat) (x : AVal), (stripL xs)[i]? = some x → ∃ y, xs[i]? = some y ∧ x = y.strip := fun i x h => by
      rw [stripL_get] at h
      obtain ⟨y, h1, h2⟩ := map_some h
      exact ⟨y, h1, h2.symm⟩
    simp only [AVal.strip]
    rw [← stripL_length xs]
    refine .list s (stripL xs) none b o cap f (by rw [stripL_length]; exact hcap) (fun i x hx => ?_) (fun i x j c hx hc => ?_) (fun i x j c hx hc => ?_) (fun _ h => by cases h)
    · obtain ⟨y, h1, rfl⟩ := key i x hx
      rw [strip_cells, stripL_length]; exact hs i y h1
    · obtain ⟨y, h1, rfl⟩ := key i x hx
      rw [strip_cells, stripL_get] at hc
      obtain ⟨c', h2, rfl⟩ := map_some hc
      exact hI i y j c' h1 h2
    · obtain ⟨y, h1, rfl⟩ := key i x hx
      rw [strip_cells, stripL_get] at hc
      obtain ⟨c', h2, rfl⟩ := map_some hc
      exact ih i y j c' h1 h2
  | list0 s tok a cap ht0 => exact .list0 s none a cap (fun _ h => by cases h)
  | mlist s n off len b cap hn hcap => exact .mlist s n off len b cap hn hcap
  | ptr n off b hn => exact .ptr n off b hn
  | iptr cs off b o f hI hv ih =>
    refine .iptr (stripL cs) off b o f (fun j c hc => ?_) (fun j c hc => ?_) <;> rw [stripL_get] at hc <;> obtain ⟨c', h2, rfl⟩ := map_some hc
    · exact hI j c' h2
    · exact ih j c' h2
  | nilp => exact .nilp
  | fn f first caps fs cs hf hc vf vc ihf ihc =>
    refine .fn f (stripL first) (stripL caps) fs cs (by rw [stripL_length]; exact hf) (by rw [stripL_length]; exact hc) (fun i x v hx hv => ?_) (fun i x v hx hv => ?_) <;> rw [stripL_get] at hx <;> obtain ⟨c', h2, rfl⟩ := map_some hx
    · exact ihf i c' v h2 hv
    · exact ihc i c' v h2 hv
  | nilfn => exact .nilfn
  | agg xs cs hl hv ih =>
    refine .agg (stripL xs) cs (by rw [stripL_length]; exact hl) (fun i x v hx hv => ?_)
    rw [stripL_get] at hx; obtain ⟨c', h2, rfl⟩ := map_some hx
    exact ih i c' v h2 hv
  | tup xs cs hl hv ih =>
    refine .tup (stripL xs) cs (by rw [stripL_length]; exact hl) (fun i x v hx hv => ?_)
    rw [stripL_get] at hx; obtain ⟨c', h2, rfl⟩ := map_some hx
    exact ih i c' v h2 hv
  | map n b hn => exact .map n b hn
  | nilm => exact .nilm
  | yld n l hn => exact .yld n l hn
  | nili => exact .nili
  | errv t x => exact .errv t x
  | flt k n => exact .flt k n
  | cpx k n m => exact .cpx k n m
  | vlist e s n len b cap tot hn hH hcap hroom => exact .vlist e s n len b cap tot hn hH hcap hroom

theorem stripL_rel {G : Ghost} {xs : List AVal} {cs : Array Value} (h : ARel G xs cs) : ARel G (stripL xs) cs :=
  ⟨by rw [stripL_length]; exact h.len, fun i x v hx hv => by
    rw [stripL_get] at hx; obtain ⟨c', h2, rfl⟩ := map_some hx
    exact strip_rel (h.val i c' v h2 hv)⟩

theorem freeL_get : ∀ {l : List AVal} (i : Nat) (x : AVal), freeL l = true → l[i]? = some x → x.free = true
  | [], i, x, _, h => by simp at h
  | y :: l, 0, x, hf, h => by simp [freeL] at hf; simp at h; subst h; exact hf.1
  | y :: l, i + 1, x, hf, h => by simp [freeL] at hf; exact freeL_get i x hf.2 (by simpa using h)
theorem free_cells {x : AVal} (h : x.free = true) : freeL x.cells = true := by
  cases x <;> simp [AVal.cells, freeL, AVal.free] at * <;> simp [AVal.free, *]

/-- A value that holds no names stands for the same wherever the same cells stay. -/
theorem free_rel {G G' : Ghost} (hI' : ∀ {b o v}, G.imm b o = some v → G'.imm b o = some v) {x : AVal} {v : Value} (h : VRel G x v) (hf : x.free = true) : VRel G' x v := by
  induction h with
  | bool b => exact .bool b
  | int k n => exact .int k n
  | str s => exact .str s
  | nils => exact .nils
  | list s xs tok b o cap f hcap hs hI hv ht ih =>
    simp only [AVal.free, Bool.and_eq_true] at hf
    exact .list s xs tok b o cap f hcap hs (fun i x j c h1 h2 => hI' (hI i x j c h1 h2)) (fun i x j c h1 h2 => ih i x j c h1 h2 (freeL_get j c (free_cells (freeL_get i x hf.1 h1)) h2)) (fun k hk => by rw [hk] at hf; simp at hf)
  | list0 s tok a cap ht0 => exact .list0 s tok a cap ht0
  | mlist s n off len b cap hn hcap => simp [AVal.free] at hf
  | ptr n off b hn => simp [AVal.free] at hf
  | iptr cs off b o f hI hv ih =>
    simp only [AVal.free] at hf
    exact .iptr cs off b o f (fun j c h => hI' (hI j c h)) (fun j c h => ih j c h (freeL_get j c hf h))
  | nilp => exact .nilp
  | fn f first caps fs cs hf' hc vf vc ihf ihc =>
    simp only [AVal.free, Bool.and_eq_true] at hf
    exact .fn f first caps fs cs hf' hc (fun i x v h1 h2 => ihf i x v h1 h2 (freeL_get i x hf.1 h1)) (fun i x v h1 h2 => ihc i x v h1 h2 (freeL_get i x hf.2 h1))
  | nilfn => exact .nilfn
  | agg xs cs hl hv ih =>
    simp only [AVal.free] at hf
    exact .agg xs cs hl (fun i x v h1 h2 => ih i x v h1 h2 (freeL_get i x hf h1))
  | tup xs cs hl hv ih =>
    simp only [AVal.free] at hf
    exact .tup xs cs hl (fun i x v h1 h2 => ih i x v h1 h2 (freeL_get i x hf h1))
  | map n b hn => simp [AVal.free] at hf
  | nilm => exact .nilm
  | yld n l hn => simp [AVal.free] at hf
  | nili => exact .nili
  | errv t x => exact .errv t x
  | flt k n => exact .flt k n
  | cpx k n m => exact .cpx k n m
  | vlist e s n len b cap tot hn hH hcap hroom => simp [AVal.free] at hf
theorem freeL_rel {G G' : Ghost} (hI' : ∀ {b o v}, G.imm b o = some v → G'.imm b o = some v) {xs : List AVal} {cs : Array Value} (h : ARel G xs cs) (hf : freeL xs = true) : ARel G' xs cs :=
  ⟨h.len, fun i x v h1 h2 => free_rel hI' (h.val i x v h1 h2) (freeL_get i x hf h1)⟩

open Classical in
/-- Nothing with a name is written any more. -/
noncomputable def frozenAll (G : Ghost) (g : Mem) (w : World) : Nat → Nat → Option Value := fun b o =>
  match G.imm b o with
  | some v => some v
  | none => if ∃ n cs, g n = some (.cells cs) ∧ G.ρ n = some b then w.cell? ⟨b, o, none⟩ else none

theorem frozen_imm {G : Ghost} {g : Mem} {w : World} {b o : Nat} {v : Value} (h : G.imm b o = some v) : frozenAll G g w b o = some v := by
  simp [frozenAll, h]
theorem frozen_cell {G : Ghost} {g : Mem} {w : World} (hc : Core G g w) {b o : Nat} {v : Value} (h : frozenAll G g w b o = some v) : w.cell? ⟨b, o, none⟩ = some v := by
  unfold frozenAll at h
  cases hi : G.imm b o with
  | some u => simp [hi] at h; subst h; exact hc.imm b o _ hi
  | none =>
    simp only [hi] at h
    split at h
    · exact h
    · cases h
theorem frozen_same {G : Ghost} {g : Mem} {w : World} {b : Nat} (hno : ¬ ∃ n, Own G g n b) (o : Nat) : frozenAll G g w b o = G.imm b o := by
  unfold frozenAll
  cases hi : G.imm b o with
  | some u => rfl
  | none =>
    simp only
    rw [if_neg]
    rintro ⟨n, cs, h1, h2⟩
    exact hno ⟨n, .inl ⟨cs, h1, h2⟩⟩
theorem frozen_name {G : Ghost} {g : Mem} {w : World} (hc : Core G g w) {n b : Nat} {cs : List AVal} (hg : g n = some (.cells cs) ∨ g n = some (.ro cs)) (hb : G.ρ n = some b) {j : Nat} {c : AVal} (hj : cs[j]? = some c) :
    ∃ v, frozenAll G g w b j = some v ∧ VRel G c v := by
  rcases hg with hg | hg
  · obtain ⟨b', c', t, h1, h2, h3, h4⟩ := hc.obj n _ hg
    rw [hb] at h1; cases h1
    obtain ⟨v, k1, k2⟩ := h3.get hj
    refine ⟨v, ?_, k2⟩
    unfold frozenAll
    simp only [h4.1 j]
    rw [if_pos ⟨n, cs, hg, hb⟩, cell_of_heap h2]
    exact k1
  · obtain ⟨b', h1, h2⟩ := hc.obj n _ hg
    rw [hb] at h1; cases h1
    obtain ⟨v, k1, k2⟩ := h2 j c hj
    exact ⟨v, frozen_imm k1, k2⟩

theorem sealL_get {f : AVal → Option AVal} : ∀ (l m : List AVal), sealV.sealL f l = some m → m.length = l.length ∧ ∀ (i : Nat) (x : AVal), l[i]? = some x → ∃ y, f x = some y ∧ m[i]? = some y
  | [], m, h => by simp only [sealV.sealL] at h; cases h; exact ⟨rfl, fun i x h => by simp at h⟩
  | x :: l, m, h => by
    simp only [sealV.sealL] at h
    split at h <;> try (cases h; done)
    rename_i y m' h1 h2
    cases h
    obtain ⟨k1, k2⟩ := sealL_get l m' h2
    refine ⟨by simp [k1], fun i z hz => ?_⟩
    cases i with
    | zero => simp at hz; subst hz; exact ⟨y, h1, by simp⟩
    | succ i => obtain ⟨y', e1, e2⟩ := k2 i z (by simpa using hz); exact ⟨y', e1, by simpa using e2⟩
theorem sealL_back {f : AVal → Option AVal} {l m : List AVal} (h : sealV.sealL f l = some m) {i : Nat} {y : AVal} (hy : m[i]? = some y) : ∃ x, l[i]? = some x ∧ f x = some y := by
  obtain ⟨k1, k2⟩ := sealL_get l m h
  have hi : i < l.length := by rw [← k1]; exact (List.getElem?_eq_some_iff.1 hy).1
  obtain ⟨y', e1, e2⟩ := k2 i _ (List.getElem?_eq_getElem hi)
  rw [e2] at hy; cases hy
  exact ⟨_, List.getElem?_eq_getElem hi, e1⟩

theorem seal_cells {σ : Store} {d : Nat} {x y : AVal} (h : sealV σ (d + 1) x = some y) (hx : ∀ cs, x ≠ .agg cs) : x.cells = [x] ∧ y.cells = [y] := by
  cases x <;> simp only [sealV] at h <;> first
    | (exact absurd rfl (hx _))
    | (cases h; done)
    | (cases h; exact ⟨rfl, rfl⟩)
    | (obtain ⟨m, h1, rfl⟩ := map_some h; exact ⟨rfl, rfl⟩)
    | (split at h <;> first | (cases h; done) | (split at h <;> first | (cases h; done) | (split at h <;> first | (cases h; done) | (split at h <;> first | (cases h; done) | (split at h <;> first | (cases h; done) | (cases h; exact ⟨rfl, rfl⟩))) | (cases h; exact ⟨rfl, rfl⟩)) | (cases h; exact ⟨rfl, rfl⟩) | (obtain ⟨m, h1, rfl⟩ := map_some h; exact ⟨rfl, rfl⟩)) | (cases h; exact ⟨rfl, rfl⟩) | (obtain ⟨m, h1, rfl⟩ := map_some h; exact ⟨rfl, rfl⟩))

/-- The parts of an element, where nothing is written any more. -/
theorem elem_seal {σ : Store} {G G' : Ghost} {d : Nat} (IH : ∀ d', d' ≤ d → ∀ (x : AVal) (v : Value) (y : AVal), VRel G x v → sealV σ d' x = some y → VRel G' y v) {x y : AVal} {f : Nat → Value} (hv : ∀ (j : Nat) (c : AVal), x.cells[j]? = some c → VRel G c (f j)) (h : sealV σ d x = some y) :
    y.cells.length = x.cells.length ∧ ∀ (j : Nat) (c : AVal), y.cells[j]? = some c → VRel G' c (f j) ∧ ∃ c', x.cells[j]? = some c' := by
  match d, h, IH with
  | 0, h, _ => simp [sealV] at h
  | d + 1, h, IH =>
    by_cases hx : ∃ cs, x = .agg cs
    · obtain ⟨cs, rfl⟩ := hx
      simp only [sealV] at h
      obtain ⟨m, h1, rfl⟩ := map_some h
      refine ⟨(sealL_get _ _ h1).1, fun j c hj => ?_⟩
      obtain ⟨c', k1, k2⟩ := sealL_back h1 hj
      exact ⟨IH d (by omega) c' (f j) c (hv j c' k1) k2, c', k1⟩
    · obtain ⟨e1, e2⟩ := seal_cells h (fun cs hcs => hx ⟨cs, hcs⟩)
      refine ⟨by rw [e1, e2]; rfl, fun j c hj => ?_⟩
      rw [e2] at hj
      cases j with
      | zero =>
        simp at hj; subst hj
        have h0 : x.cells[0]? = some x := by rw [e1]; rfl
        exact ⟨IH (d + 1) (Nat.le_refl _) x (f 0) y (hv 0 x h0) h, x, h0⟩
      | succ j => simp at hj

theorem seal_rel {G : Ghost} {σ : Store} {w : World} (hc : Core G σ.get w) {G' : Ghost} (hG : G'.imm = frozenAll G σ.get w) : ∀ (d : Nat) (d' : Nat), d' ≤ d → ∀ (x : AVal) (v : Value) (y : AVal), VRel G x v → sealV σ d' x = some y → VRel G' y v := by
  intro d
  induction d with
  | zero =>
    intro d' hd x v y hv h
    have hd0 : d' = 0 := by omega
    subst hd0
    simp [sealV] at h
  | succ d IH =>
    intro d' hd x v y hv h
    match d', h with
    | 0, h => simp [sealV] at h
    | d' + 1, h =>
      have IH' : ∀ e, e ≤ d' → ∀ (x : AVal) (v : Value) (y : AVal), VRel G x v → sealV σ e x = some y → VRel G' y v := fun e he => IH e (by omega)
      have cells : ∀ {cs m : List AVal} {f : Nat → Value}, (∀ (j : Nat) (c : AVal), cs[j]? = some c → VRel G c (f j)) → sealV.sealL (sealV σ d') cs = some m → m.length = cs.length ∧ ∀ (j : Nat) (c : AVal), m[j]? = some c → VRel G' c (f j) ∧ ∃ c', cs[j]? = some c' := fun {cs m f} hv h1 => by
        refine ⟨(sealL_get _ _ h1).1, fun j c hj => ?_⟩
        obtain ⟨c', k1, k2⟩ := sealL_back h1 hj
        exact ⟨IH' d' (Nat.le_refl _) c' (f j) c (hv j c' k1) k2, c', k1⟩
      have arr : ∀ {xs m : List AVal} {cs : Array Value}, xs.length = cs.size → (∀ (i : Nat) (x : AVal) (v : Value), xs[i]? = some x → cs[i]? = some v → VRel G x v) → sealV.sealL (sealV σ d') xs = some m → m.length = cs.size ∧ ∀ (i : Nat) (x : AVal) (v : Value), m[i]? = some x → cs[i]? = some v → VRel G' x v := fun {xs m cs} hl hv h1 => by
        refine ⟨by rw [(sealL_get _ _ h1).1, hl], fun j c u hj hu => ?_⟩
        obtain ⟨c', k1, k2⟩ := sealL_back h1 hj
        exact IH' d' (Nat.le_refl _) c' u c (hv j c' u k1 hu) k2
      cases hv with
      | bool b => simp only [sealV] at h; cases h; exact .bool b
      | int k n => simp only [sealV] at h; cases h; exact .int k n
      | str s => simp only [sealV] at h; cases h; exact .str s
      | nils => simp only [sealV] at h; cases h; exact .nils
      | nilp => simp only [sealV] at h; cases h; exact .nilp
      | nilfn => simp only [sealV] at h; cases h; exact .nilfn
      | list s xs tok b o cap f hcap hs hI hv ht =>
        simp only [sealV] at h
        obtain ⟨m, h1, rfl⟩ := map_some h
        have hlen := (sealL_get _ _ h1).1
        have key : ∀ (i : Nat) (y : AVal), m[i]? = some y → ∃ x, xs[i]? = some x ∧ y.cells.length = x.cells.length ∧ ∀ (j : Nat) (c : AVal), y.cells[j]? = some c → VRel G' c (f i j) ∧ ∃ c', x.cells[j]? = some c' := fun i y hy => by
          obtain ⟨x, k1, k2⟩ := sealL_back h1 hy
          obtain ⟨e1, e2⟩ := elem_seal IH' (fun j c hj => hv i x j c k1 hj) k2
          exact ⟨x, k1, e1, e2⟩
        rw [← hlen]
        refine .list s m none b o cap f (by rw [hlen]; exact hcap) (fun i y hy => ?_) (fun i y j c hy hj => ?_) (fun i y j c hy hj => ?_) (fun _ h => by cases h)
        · obtain ⟨x, k1, k2, _⟩ := key i y hy; rw [k2]; exact hs i x k1
        · obtain ⟨x, k1, _, k3⟩ := key i y hy
          obtain ⟨_, c', k4⟩ := k3 j c hj
          rw [hG]; exact frozen_imm (hI i x j c' k1 k4)
        · obtain ⟨x, k1, _, k3⟩ := key i y hy
          exact (k3 j c hj).1
      | list0 s tok a cap ht0 => simp only [sealV, sealV.sealL, Option.map_some] at h; cases h; exact .list0 s none a cap (fun _ h => by cases h)
      | mlist s n off len b cap hn hcap =>
        simp only [sealV] at h
        split at h <;> try (cases h; done)
        rename_i hs0
        have go : ∀ cs, (σ.get n = some (.cells cs) ∨ σ.get n = some (.ro cs)) → (if off + len * s ≤ cs.length then
            match sealV.sealL (sealV σ d') cs with
            | none => none
            | some cs => match chunks (s != 1) s len (cs.drop off) with
              | none => none
              | some xs => some (.list s xs none)
            else none) = some y → VRel G' y (.slice (some ⟨b, off, none⟩) len cap) := by
          intro cs hg h
          split at h <;> try (cases h; done)
          rename_i hle
          split at h <;> try (cases h; done)
          rename_i m hm
          split at h <;> try (cases h; done)
          rename_i xs hx
          cases h
          let f : Nat → Value := fun j => (frozenAll G σ.get w b j).getD undef
          have hf : ∀ (j : Nat) (c : AVal), cs[j]? = some c → G'.imm b j = some (f j) ∧ VRel G c (f j) := fun j c hj => by
            obtain ⟨v, k1, k2⟩ := frozen_name hc hg hn hj
            have e : f j = v := by simp [f, k1]
            rw [hG, e]; exact ⟨k1, k2⟩
          obtain ⟨hlen, hcells⟩ := cells (f := f) (fun j c hj => (hf j c hj).2) hm
          obtain ⟨q1, q2⟩ := chunks_get _ _ _ hx
          have hll : len * s ≤ (m.drop off).length := by simp; omega
          have hcell : ∀ (i : Nat) (y : AVal) (j : Nat) (c : AVal), xs[i]? = some y → y.cells[j]? = some c → m[off + (i * s + j)]? = some c := fun i y j c hy hj => by
            have hi := (List.getElem?_eq_some_iff.1 hy).1
            have := ((chunk_cell hll (by omega) (q2 i y hy)).2 j c hj).2
            rw [List.getElem?_drop] at this
            exact this
          rw [← q1]
          refine .list s xs none b off cap (fun i j => f (off + (i * s + j))) (by rw [q1]; exact hcap) (fun i y hy => ?_) (fun i y j c hy hj => ?_) (fun i y j c hy hj => (hcells _ c (hcell i y j c hy hj)).1) (fun _ h => by cases h)
          · have hi := (List.getElem?_eq_some_iff.1 hy).1
            exact (chunk_cell hll (by omega) (q2 i y hy)).1
          · obtain ⟨_, c', k4⟩ := hcells _ c (hcell i y j c hy hj)
            rw [show off + i * s + j = off + (i * s + j) from by omega]
            exact (hf _ c' k4).1
        split at h
        · rename_i cs hg; exact go cs (.inl hg) h
        · rename_i cs hg; exact go cs (.inr hg) h
        · cases h
      | vlist te s n len b cap tot hn hH0 hcap hroom =>
        obtain ⟨off, hoff⟩ : ∃ off : Nat, off = 0 := ⟨0, rfl⟩
        have hgoal : VRel G' y (.slice (some ⟨b, off, none⟩) len cap) → VRel G' y (.slice (some ⟨b, 0, none⟩) len cap) := fun h => by rw [hoff] at h; exact h
        apply hgoal
        simp only [sealV] at h
        rw [← hoff] at h
        split at h <;> try (cases h; done)
        rename_i hs0
        have go : ∀ cs, (σ.get n = some (.cells cs) ∨ σ.get n = some (.ro cs)) → (if off + len * s ≤ cs.length then
            match sealV.sealL (sealV σ d') cs with
            | none => none
            | some cs => match chunks (s != 1) s len (cs.drop off) with
              | none => none
              | some xs => some (.list s xs none)
            else none) = some y → VRel G' y (.slice (some ⟨b, off, none⟩) len cap) := by
          intro cs hg h
          split at h <;> try (cases h; done)
          rename_i hle
          split at h <;> try (cases h; done)
          rename_i m hm
          split at h <;> try (cases h; done)
          rename_i xs hx
          cases h
          let f : Nat → Value := fun j => (frozenAll G σ.get w b j).getD undef
          have hf : ∀ (j : Nat) (c : AVal), cs[j]? = some c → G'.imm b j = some (f j) ∧ VRel G c (f j) := fun j c hj => by
            obtain ⟨v, k1, k2⟩ := frozen_name hc hg hn hj
            have e : f j = v := by simp [f, k1]
            rw [hG, e]; exact ⟨k1, k2⟩
          obtain ⟨hlen, hcells⟩ := cells (f := f) (fun j c hj => (hf j c hj).2) hm
          obtain ⟨q1, q2⟩ := chunks_get _ _ _ hx
          have hll : len * s ≤ (m.drop off).length := by simp; omega
          have hcell : ∀ (i : Nat) (y : AVal) (j : Nat) (c : AVal), xs[i]? = some y → y.cells[j]? = some c → m[off + (i * s + j)]? = some c := fun i y j c hy hj => by
            have hi := (List.getElem?_eq_some_iff.1 hy).1
            have := ((chunk_cell hll (by omega) (q2 i y hy)).2 j c hj).2
            rw [List.getElem?_drop] at this
            exact this
          rw [← q1]
          refine .list s xs none b off cap (fun i j => f (off + (i * s + j))) (by rw [q1]; exact hcap) (fun i y hy => ?_) (fun i y j c hy hj => ?_) (fun i y j c hy hj => (hcells _ c (hcell i y j c hy hj)).1) (fun _ h => by cases h)
          · have hi := (List.getElem?_eq_some_iff.1 hy).1
            exact (chunk_cell hll (by omega) (q2 i y hy)).1
          · obtain ⟨_, c', k4⟩ := hcells _ c (hcell i y j c hy hj)
            rw [show off + i * s + j = off + (i * s + j) from by omega]
            exact (hf _ c' k4).1
        split at h
        · rename_i cs hg; exact go cs (.inl hg) h
        · rename_i cs hg; exact go cs (.inr hg) h
        · cases h
      | ptr n off b hn =>
        simp only [sealV] at h
        have go : ∀ cs, (σ.get n = some (.cells cs) ∨ σ.get n = some (.ro cs)) → (sealV.sealL (sealV σ d') cs).map (fun cs => AVal.iptr cs off) = some y → VRel G' y (.pointer (some ⟨b, off, none⟩)) := by
          intro cs hg h
          obtain ⟨m, hm, rfl⟩ := map_some h
          let f : Nat → Value := fun j => (frozenAll G σ.get w b j).getD undef
          have hf : ∀ (j : Nat) (c : AVal), cs[j]? = some c → G'.imm b j = some (f j) ∧ VRel G c (f j) := fun j c hj => by
            obtain ⟨v, k1, k2⟩ := frozen_name hc hg hn hj
            have e : f j = v := by simp [f, k1]
            rw [hG, e]; exact ⟨k1, k2⟩
          obtain ⟨hlen, hcells⟩ := cells (f := f) (fun j c hj => (hf j c hj).2) hm
          have : VRel G' (.iptr m off) (.pointer (some ⟨b, 0 + off, none⟩)) := .iptr m off b 0 f (fun j c hj => by
            obtain ⟨_, c', k4⟩ := hcells j c hj
            rw [Nat.zero_add]; exact (hf j c' k4).1) (fun j c hj => (hcells j c hj).1)
          rw [Nat.zero_add] at this
          exact this
        split at h
        · rename_i cs hg; exact go cs (.inl hg) h
        · rename_i cs hg; exact go cs (.inr hg) h
        · cases h
      | iptr cs off b o f hI hv =>
        simp only [sealV] at h
        obtain ⟨m, hm, rfl⟩ := map_some h
        obtain ⟨hlen, hcells⟩ := cells (f := f) hv hm
        refine .iptr m off b o f (fun j c hj => ?_) (fun j c hj => (hcells j c hj).1)
        obtain ⟨_, c', k4⟩ := hcells j c hj
        rw [hG]; exact frozen_imm (hI j c' k4)
      | fn f first caps fs cs hf hc' vf vc =>
        simp only [sealV] at h
        split at h <;> try (cases h; done)
        rename_i a b h1 h2
        cases h
        obtain ⟨a1, a2⟩ := arr hf vf h1
        obtain ⟨b1, b2⟩ := arr hc' vc h2
        exact .fn f a b fs cs a1 b1 a2 b2
      | agg xs cs hl hv =>
        simp only [sealV] at h
        obtain ⟨m, hm, rfl⟩ := map_some h
        obtain ⟨a1, a2⟩ := arr hl hv hm
        exact .agg m cs a1 a2
      | tup xs cs hl hv =>
        simp only [sealV] at h
        obtain ⟨m, hm, rfl⟩ := map_some h
        obtain ⟨a1, a2⟩ := arr hl hv hm
        exact .tup m cs a1 a2
      | map n b hn => simp only [sealV] at h; cases h
      | yld n l hn => simp only [sealV] at h; cases h
      | nilm => simp only [sealV] at h; cases h; exact .nilm
      | nili => simp only [sealV] at h; cases h; exact .nili
      | errv t x => simp only [sealV] at h; cases h; exact .errv t x
      | flt k n => simp only [sealV] at h; cases h; exact .flt k n
      | cpx k n m => simp only [sealV] at h; cases h; exact .cpx k n m

/-- What a call hands back, where nothing is written any more. -/
theorem sealR_rel {G : Ghost} {σ : Store} {w : World} (hc : Core G σ.get w) {v y : AVal} {u : Value} (hv : VRel G v u) (h : sealR σ v = some y) (G' : Ghost) (hG : G'.imm = frozenAll G σ.get w) : VRel G' y u ∧ y.free = true := by
  have h1 := strip_rel hv
  unfold sealR at h
  simp only at h
  split at h
  · rename_i hf
    cases h
    exact ⟨free_rel (fun {b o v} h => by rw [hG]; exact frozen_imm h) h1 hf, hf⟩
  · split at h <;> try (cases h; done)
    rename_i z hz
    split at h <;> try (cases h; done)
    rename_i hf
    cases h
    exact ⟨seal_rel hc hG 40 40 (Nat.le_refl _) _ _ _ h1 hz, hf⟩
end Go.Proofs.Ytgijgcmcpgepaaa.Eng
