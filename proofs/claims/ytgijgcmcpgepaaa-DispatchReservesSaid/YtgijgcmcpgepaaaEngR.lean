/-
  ENGINE, R: what a run means: preparations.
-/
import Derived.Test.YtgijgcmcpgepaaaEngQ
namespace Go.Proofs.Ytgijgcmcpgepaaa.Eng
set_option linter.unusedSimpArgs false
set_option linter.unusedVariables false

theorem xcaps_next : ∀ (l : List AVal) (σ : Store), (xcaps σ l).2.next = σ.next
  | [], σ => rfl
  | x :: l, σ => by
    have ih := xcaps_next l σ
    simp only [xcaps]
    repeat' split
    all_goals exact ih
theorem xcaps_get : ∀ (l : List AVal) (σ : Store) (n : Nat), (∀ cs, σ.get n ≠ some (.cells cs)) → (xcaps σ l).2.get n = σ.get n
  | [], σ, n, _ => rfl
  | x :: l, σ, n, h => by
    have ih := xcaps_get l σ n h
    simp only [xcaps]
    split
    · rename_i m
      split
      · rename_i cs hg
        split
        · have hne : m ≠ n := by rintro rfl; rw [ih] at hg; exact h cs hg
          rw [Store.get_put, Mem.put_ne _ hne]; exact ih
        · exact ih
      · split <;> exact ih
      · exact ih
    · exact ih

theorem xappend_next {σ σ' : Store} {e s b : Nat} {x y v : AVal} (hx : xappend σ e s b x y = some (v, σ')) : σ.next ≤ σ'.next := by
  unfold xappend at hx
  unfold xappendM at hx
  repeat' (first | (cases hx; done) | (cases hx; exact Nat.le_refl _) | (cases hx; exact Nat.le_succ _) | split at hx)
theorem xappendV_next {σ σ' : Store} {e s b : Nat} {x y v : AVal} (hx : xappendV σ e s b x y = some (v, σ')) : σ.next ≤ σ'.next := by
  unfold xappendV at hx
  split at hx
  · exact xappend_next hx
  · unfold xappendW at hx
    repeat' (first | (cases hx; done) | (cases hx; exact Nat.le_refl _) | (cases hx; exact Nat.le_succ _) | split at hx)
theorem xop_next {o : XOp} {tm : List AVal} {σ τ : Store} {v : AVal} (h : xop o tm σ = some (.val v τ)) : σ.next ≤ τ.next := by
  cases o
  case fn frz f a b =>
    simp only [xop] at h
    cases frz
    · simp only [Bool.false_eq_true, if_false] at h; cases h; exact Nat.le_refl _
    · simp only [if_true] at h; cases h; exact Nat.le_of_eq (xcaps_next _ _).symm
  case append e s by' x y =>
    simp only [xop] at h
    split at h <;> try (cases h; done)
    rename_i v' σ' hx
    cases h
    unfold xappend at hx
    unfold xappendM at hx
    repeat' (first | (cases hx; done) | (cases hx; exact Nat.le_refl _) | (cases hx; exact Nat.le_succ _) | split at hx)
  case fl => simp only [xop] at h; obtain ⟨_, _, h2⟩ := map_some h; cases h2; exact Nat.le_refl _
  case appendV e s by' x y =>
    simp only [xop] at h
    split at h <;> try (cases h; done)
    rename_i v' σ' hx
    cases h
    exact xappendV_next hx
  case buildSliceF =>
    simp only [xop] at h
    repeat' (first | (cases h; done) | (cases h; exact Nat.le_trans (Nat.le_succ _) (Nat.le_succ _)) | split at h)
  case bin => simp only [xop] at h; obtain ⟨_, _, h2⟩ := map_some h; cases h2; exact Nat.le_refl _
  case len => simp only [xop] at h; obtain ⟨_, _, h2⟩ := map_some h; cases h2; exact Nat.le_refl _
  case movf x =>
    simp only [xop] at h
    obtain ⟨⟨y, τ'⟩, h1, h2⟩ := map_some h
    cases h2
    unfold xmovf at h1
    repeat' (first | (cases h1; done) | (cases h1; exact Nat.le_refl _) | split at h1)
  case eqA => simp only [xop] at h; obtain ⟨_, _, h2⟩ := map_some h; cases h2; exact Nat.le_refl _
  case un => simp only [xop] at h; obtain ⟨_, _, h2⟩ := map_some h; cases h2; exact Nat.le_refl _
  case ext => simp only [xop] at h; obtain ⟨_, _, h2⟩ := map_some h; cases h2; exact Nat.le_refl _
  all_goals
    simp only [xop] at h
    repeat' (first | (cases h; done) | (cases h; exact Nat.le_refl _) | (cases h; exact Nat.le_succ _) | split at h)

theorem xop_same {o : XOp} {tm : List AVal} {σ τ : Store} {v : AVal} {tch : List Nat} (h : xop o tm (σ.only tch) = some (.val v τ)) {n : Nat} (hn : n ∈ tch) (hw : n ∉ wrote o σ tch) : τ.get n = σ.get n := by
  cases o <;> simp only [wrote] at hw <;> try (exact absurd hn hw)
  case load1 x =>
    simp only [xop] at h
    repeat' (first | (cases h; done) | (cases h; exact only_mem hn) | split at h)
  case loadn k x =>
    simp only [xop] at h
    repeat' (first | (cases h; done) | (cases h; exact only_mem hn) | split at h)
  case lookup =>
    simp only [xop] at h
    repeat' (first | (cases h; done) | (cases h; exact only_mem hn) | split at h)
  case lenM x =>
    simp only [xop] at h
    repeat' (first | (cases h; done) | (cases h; exact only_mem hn) | split at h)
  case lookupS =>
    simp only [xop] at h
    repeat' (first | (cases h; done) | (cases h; exact only_mem hn) | split at h)
  case entryM x =>
    simp only [xop] at h
    repeat' (first | (cases h; done) | (cases h; exact only_mem hn) | split at h)
  case fn frz f a b =>
    simp only [xop] at h
    cases frz
    · simp only [Bool.false_eq_true, if_false] at h; cases h; exact only_mem hn
    · simp only [if_true] at h; cases h
      rw [xcaps_get, only_mem hn]
      intro cs hcs
      rw [only_mem hn] at hcs
      exact hw (by rw [List.mem_filter]; exact ⟨hn, by rw [hcs]⟩)

theorem wrote_sub {o : XOp} {σ : Store} {tch : List Nat} {n : Nat} (h : n ∈ wrote o σ tch) : n ∈ tch := by
  cases o <;> simp only [wrote] at h <;> first
    | exact h
    | (cases h; done)
    | exact (List.mem_filter.1 h).1

theorem okRec_nil : ∀ (l : List (List Nat × List Nat)) (k : Nat) (pre : List Nat), okRec l k pre [] [] = true
  | [], _, _ => rfl
  | (t, w) :: l, k, pre => by
    have ih := okRec_nil l (k + 1) pre
    have h1 : ∀ m : List Nat, hits m [] = false := fun m => by
      unfold hits
      rw [List.any_eq_false]
      intro x _; simp
    simp [okRec, h1, ih]
theorem merge_nil (σ : Store) : σ.merge ⟨[], σ.next⟩ [] = σ := by
  obtain ⟨l, n⟩ := σ
  unfold Store.merge
  simp [isIn]

theorem xopers_get {P : Program} {nofz : List FuncId} {ops : Array Oper} : ∀ (l : List Oper) (ps : List (List Nat)) (xs : List XOper), xopers P nofz ops l ps = some xs → xs.length = l.length ∧ ∀ (i : Nat) (o : Oper), l[i]? = some o → ∃ x, xs[i]? = some x ∧ xoper P nofz ops o (ps.getD i []) = some x
  | [], ps, xs, h => by simp only [xopers] at h; cases h; exact ⟨rfl, fun i o h => by simp at h⟩
  | o :: l, ps, xs, h => by
    simp only [xopers] at h
    split at h <;> try (cases h; done)
    rename_i x m h1 h2
    cases h
    obtain ⟨k1, k2⟩ := xopers_get l ps.tail m h2
    refine ⟨by simp [k1], fun i o' ho => ?_⟩
    cases i with
    | zero =>
      simp at ho; subst ho
      exact ⟨x, by simp, by cases ps <;> simpa using h1⟩
    | succ i =>
      obtain ⟨y, e1, e2⟩ := k2 i o' (by simpa using ho)
      exact ⟨y, by simpa using e1, by cases ps <;> simpa using e2⟩

theorem presFrom_length : ∀ (l : List Oper) (acc : List (List Nat)), (presFrom acc l).length = acc.length + l.length
  | [], acc => rfl
  | o :: l, acc => by simp only [presFrom]; rw [presFrom_length]; simp; omega

theorem presOk_get {es ps : List (List Nat)} (h : presOk es ps = true) {i : Nat} {e p : List Nat} (he : es[i]? = some e) (hp : ps[i]? = some p) : (∀ k, k ∈ e → k < i) ∧ ∀ k, k ∈ p → k < i ∧ ∃ j, j ∈ e ∧ (k = j ∨ k ∈ ps.getD j []) := by
  unfold presOk at h
  have hz : (es.zip ps)[i]? = some (e, p) := by rw [List.getElem?_zip_eq_some]; exact ⟨he, hp⟩
  have h1 := List.all_eq_true.1 h ((e, p), i) (by
    rw [List.mem_iff_getElem?]
    exact ⟨i, by rw [List.getElem?_zipIdx, hz]; simp⟩)
  simp only [Bool.and_eq_true] at h1
  refine ⟨fun k hk => ?_, fun k hk => ?_⟩
  · have := List.all_eq_true.1 h1.1 k hk
    simpa using this
  · have := List.all_eq_true.1 h1.2 k hk
    simp only [Bool.and_eq_true] at this
    obtain ⟨j, hj, hb⟩ := List.any_eq_true.1 this.2
    refine ⟨by simpa using this.1, j, hj, ?_⟩
    simp only [Bool.or_eq_true] at hb
    rcases hb with hb | hb
    · left; rwa [Nat.beq_eq] at hb
    · exact .inr (isIn_iff.1 hb)

/-- What a compiled region whose order is drawn gives. -/
theorem setting_of {P : Program} {cr : Code → XCode → Prop} {nofz : List FuncId} {ops : Array Oper} {xs : List XOper} {fs : List Inf} {tm0 tm1 : List AVal} {σ0 σ1 : Store} (hx : xopers P nofz ops ops.toList (presFrom [] ops.toList) = some xs) (hst : statOk [] 0 xs = true) (hpr : presOk (ops.toList.map edgesOf) (presFrom [] ops.toList) = true)
    (hch : Chain P cr xs [] tm0 σ0 fs tm1 σ1) : Setting P cr nofz ops fs tm0 tm1 σ0 σ1 := by
  obtain ⟨x1, x2⟩ := xopers_get _ _ _ hx
  obtain ⟨r1, r2⟩ := chain_rec hch
  obtain ⟨n1, n2, n3⟩ := chain_next hch
  obtain ⟨c1, c2⟩ := chain_canon hch fs tm0 σ0 0 (by simp) ⟨rfl, fun t ht => by simp [lastV, List.getD_eq_getElem?_getD, List.getElem?_eq_getElem ht], fun n => rfl⟩
  have hlen : fs.length = ops.size := by
    have : xs.length = fs.length := by rw [r1]; simp
    rw [← this, x1]; simp
  have hxf : ∀ (i : Nat) (f : Inf), fs[i]? = some f → xs[i]? = some f.x := fun i f hf => by rw [r1, List.getElem?_map, hf]; rfl
  have hpl : (presFrom [] ops.toList).length = ops.size := by rw [presFrom_length]; simp
  have hpre : ∀ (i : Nat) (o : Oper) (f : Inf), ops[i]? = some o → fs[i]? = some f → xoper P nofz ops o ((presFrom [] ops.toList).getD i []) = some f.x ∧ f.x.pre = (presFrom [] ops.toList).getD i [] := fun i o f ho hf => by
    obtain ⟨x, e1, e2⟩ := x2 i o (by simpa using ho)
    rw [hxf i f hf] at e1; cases e1
    refine ⟨e2, ?_⟩
    unfold xoper at e2
    repeat' (first | (cases e2; done) | (have e3 := Option.some.inj e2; rw [← e3]; done) | split at e2)
  have hedge : ∀ (i : Nat) (o : Oper), ops[i]? = some o → (∀ k, k ∈ edgesOf o → k < i) ∧ ∀ k, k ∈ (presFrom [] ops.toList).getD i [] → k < i ∧ ∃ j, j ∈ edgesOf o ∧ (k = j ∨ k ∈ (presFrom [] ops.toList).getD j []) := fun i o ho => by
    have hi : i < ops.size := (Array.getElem?_eq_some_iff.1 ho).1
    have h2 : (presFrom [] ops.toList)[i]? = some ((presFrom [] ops.toList).getD i []) := by
      rw [List.getD_eq_getElem?_getD, List.getElem?_eq_getElem (by rw [hpl]; exact hi)]; rfl
    exact presOk_get hpr (by rw [List.getElem?_map]; simp [ho]) h2
  refine ⟨hlen, fun i o f ho hf => ⟨_, (hpre i o f ho hf).1⟩, fun i f hf => (r2 i f hf).1, fun i f hf => by simpa using c1 i f hf, by simpa using c2, n2, n3, n1, ?_, ?_, fun i o ho => (hedge i o ho).1, ?_⟩
  · intro i j f g hij hf hg
    have h1 := (r2 j g hg).2
    simp only [List.nil_append] at h1
    have := okRec_get _ 0 i (f.tch, f.wr) h1 (by rw [List.getElem?_map, List.getElem?_take_of_lt hij, hf]; rfl)
    rw [Nat.zero_add] at this
    exact this.imp id fun ⟨a, b, c⟩ => ⟨fun n h => hits_false a h, fun n h => hits_false b h, fun n h => hits_false c h⟩
  · intro i j f g hij hf hg
    rcases statOk_get xs [] 0 rfl hst i j f.x g.x hij (by simpa using hxf i f hf) (by simpa using hxf j g hg) (Nat.zero_le _) with h | ⟨h1, h2⟩
    · exact .inl h
    · exact .inr ⟨fun d hd => meets_false h1 hd, fun d hd => meets_false h2 hd⟩
  · intro i o f ho hf k hk
    rw [(hpre i o f ho hf).2] at hk
    obtain ⟨k1, j, k2, k3⟩ := (hedge i o ho).2 k hk
    refine ⟨k1, j, k2, k3.imp id fun h => ?_⟩
    have hj : j < ops.size := by
      have := (hedge i o ho).1 j k2
      have := (Array.getElem?_eq_some_iff.1 ho).1
      omega
    have hjf : fs[j]? = some (fs[j]'(by rw [hlen]; exact hj)) := List.getElem?_eq_getElem _
    exact ⟨_, hjf, by rw [(hpre j ops[j] _ (Array.getElem?_eq_getElem hj) hjf).2]; exact h⟩
end Go.Proofs.Ytgijgcmcpgepaaa.Eng
