/-
  ENGINE, J: what the compilation of an operation means.
-/
import Derived.Test.YtgijgcmcpgepaaaEngP
import Derived.Test.YtgijgcmcpgepaaaEngX
namespace Go.Proofs.Ytgijgcmcpgepaaa.Eng
set_option linter.unusedSimpArgs false
set_option linter.unusedVariables false
section
variable {P : Program} {G : Ghost} {σ : Store} {w : World} {tm : List AVal} {a : Act}

theorem ofFlat_rel {v : Value} {x : AVal} (h : ofFlat v = some x) (G : Ghost) : VRel G x v := by
  unfold ofFlat at h
  split at h <;> (cases h; try constructor)
theorem ofFlats_rel : ∀ (l : List Value) (xs : List AVal), ofFlats l = some xs → ∀ G, ARel G xs l.toArray
  | [], xs, h, G => by simp only [ofFlats] at h; cases h; exact ARel.nil G
  | v :: l, xs, h, G => by
    simp only [ofFlats] at h
    split at h <;> try (cases h; done)
    rename_i x hx
    split at h <;> try (cases h; done)
    rename_i m hm
    cases h
    have ih := ofFlats_rel l m hm G
    refine ⟨by have := ih.len; simpa using this, fun i y u h1 h2 => ?_⟩
    cases i with
    | zero => simp at h1 h2; subst h1; subst h2; exact ofFlat_rel hx G
    | succ i => exact ih.val i y u (by simpa using h1) (by simpa using h2)
theorem ofVal_rel {v : Value} {x : AVal} (h : ofVal v = some x) (G : Ghost) : VRel G x v := by
  unfold ofVal at h
  split at h
  · rename_i cs
    cases hc : ofFlats cs.toList with
    | none => rw [hc] at h; cases h
    | some xs =>
      rw [hc] at h; cases h
      have := ofFlats_rel _ _ hc G
      exact VRel.mk_agg (by simpa using this)
  · rename_i cs
    cases hc : ofFlats cs.toList with
    | none => rw [hc] at h; cases h
    | some xs =>
      rw [hc] at h; cases h
      have := ofFlats_rel _ _ hc G
      exact VRel.mk_tup (by simpa using this)
  · exact ofFlat_rel h G

theorem xopd_fit {p : Operand} {x : XOpd} (h : xopd p = some x) : OFit p x := by
  cases p with
  | tmp t => simp only [xopd] at h; cases h; exact .t t
  | const v =>
    simp only [xopd] at h
    cases hv : ofVal v with
    | none => rw [hv] at h; cases h
    | some y => rw [hv] at h; cases h; exact .c v y (ofVal_rel hv)
  | func f => simp only [xopd] at h; cases h; exact .f f
  | global g => simp only [xopd] at h; cases h
theorem xopds_fit : ∀ (l : List Operand) (m : List XOpd), xopds l = some m → LFit l m
  | [], m, h => by simp only [xopds] at h; cases h; exact .nil
  | p :: l, m, h => by
    simp only [xopds] at h
    split at h <;> try (cases h; done)
    rename_i x hx
    split at h <;> try (cases h; done)
    rename_i m' hm
    cases h
    exact .cons (xopd_fit hx) (xopds_fit l m' hm)
theorem xparts_fit {pl : Nat → Option (Nat × Nat)} : ∀ (l : List (Nat × Operand)) (m : List (Nat × Nat × XOpd)), xparts pl l = some m → PFit pl l m
  | [], m, h => by simp only [xparts] at h; cases h; exact .nil
  | (i, p) :: l, m, h => by
    simp only [xparts] at h
    split at h <;> try (cases h; done)
    rename_i off sz x m' h1 h2 h3
    cases h
    exact .cons h1 (xopd_fit h2) (xparts_fit l m' h3)
theorem xopdM_fit {p : Option Operand} {x : Option XOpd} (h : xopdM p = some x) : MFit p x := by
  cases p with
  | none => simp only [xopdM] at h; cases h; exact .none
  | some p =>
    simp only [xopdM] at h
    cases hp : xopd p with
    | none => rw [hp] at h; cases h
    | some y => rw [hp] at h; cases h; exact .some (xopd_fit hp)

theorem isAggB_eq (d : TypeDesc) : isAggB d = TypeDesc.isAggB d := by cases d <;> rfl


theorem fieldsES_len {f : TypeId → Option ES} : ∀ (l : List Field) (m : List (Nat × Nat × Bool × ES)), esOf.fieldsES P f l = some m → m.length = l.length ∧
    (∀ (i : Nat) (g : Field) (x : Nat × Nat × Bool × ES), l[i]? = some g → m[i]? = some x → (g.name ≠ "_" ∧ ∃ (ti : TypeInfo) (d : TypeDesc), P.info? g.type = some ti ∧ P.underlying g.type = some d ∧ x.1 = g.offset ∧ x.2.1 = ti.size ∧ x.2.2.1 = TypeDesc.isAggB d) ∧ f g.type = some x.2.2.2)
  | [], m, h => by simp only [esOf.fieldsES] at h; cases h; exact ⟨rfl, fun i g x h => by simp at h⟩
  | g :: l, m, h => by
    simp only [esOf.fieldsES] at h
    split at h <;> try (cases h; done)
    rename_i hn
    split at h <;> try (cases h; done)
    rename_i ti d e m' h1 h2 h3 h4
    cases h
    obtain ⟨k1, k2⟩ := fieldsES_len l m' h4
    refine ⟨by simp [k1], fun i g' x e1 e2 => ?_⟩
    cases i with
    | zero =>
      simp at e1 e2; subst e1; subst e2
      exact ⟨⟨hn, ti, d, h1, h2, rfl, rfl, isAggB_eq d⟩, h3⟩
    | succ i => exact k2 i g' x (by simpa using e1) (by simpa using e2)

theorem esOf_fit : ∀ (n : Nat) (t : TypeId) (e : ES), esOf P n t = some e → SFit P n t e
  | 0, t, e, h => by simp [esOf] at h
  | n + 1, t, e, h => by
    simp only [esOf] at h
    split at h <;> try (cases h; done)
    · rename_i k ht; cases h; exact .int _ _ k ht
    · rename_i ht; cases h; exact .bool _ _ ht
    · rename_i ht; cases h; exact .string _ _ ht
    · rename_i fs ht
      split at h <;> try (cases h; done)
      rename_i hs
      obtain ⟨es, he, rfl⟩ := map_some h
      obtain ⟨k1, k2⟩ := fieldsES_len _ _ he
      exact .struct n t fs es ht (by simpa using hs) k1 (fun i f x e1 e2 => (k2 i f x e1 e2).1) (fun i f x e1 e2 => esOf_fit n _ _ (k2 i f x e1 e2).2)
    · rename_i m te ht
      split at h <;> try (cases h; done)
      rename_i i de x h1 h2 h3
      cases h
      have := SFit.array n t te m i de x ht h1 h2 (esOf_fit n _ _ h3)
      simpa [isAggB_eq] using this

theorem sfit_under {h : Nat} {t : TypeId} {e : ES} (hf : SFit P h t e) : ∃ d, P.underlying t = some d := by
  cases hf with
  | int _ _ k ht => exact ⟨_, ht⟩
  | bool _ _ ht => exact ⟨_, ht⟩
  | string _ _ ht => exact ⟨_, ht⟩
  | struct _ _ fs es ht _ _ _ _ => exact ⟨_, ht⟩
  | array _ _ e n i d x ht _ _ _ => exact ⟨_, ht⟩
theorem kfit_fit {d : TypeDesc} {kk : Nat} (h : kfit d = some kk) : KFit kk d := by
  unfold kfit at h
  split at h <;> (cases h; try constructor)
theorem xcall_ok {nofz : List FuncId} {o : Oper} {cl : Call} {x : XOp} (ho : o.op = .call cl) (hc : xcall P nofz cl = some x) (c : At G σ w tm a) {r : XRes} (hx : xop x tm σ = some r) (hn : News G σ (r.nx σ)) : OpOk P o a G σ w r := by
  unfold xcall at hc
  split at hc <;> try (cases hc; done)
  · rename_i f hcal
    split at hc
    · obtain ⟨ys, h2, rfl⟩ := map_some hc
      exact ok_callK c ho hcal (ps := cl.args.toList) (by simp) (xopds_fit _ _ h2) hx
    · split at hc <;> try (cases hc; done)
      rename_i ys h2
      cases hc
      exact ok_call c ho hcal (ps := cl.args.toList) (by simp) (.f f) (xopds_fit _ _ h2) hx
  · rename_i p _ hcal
    split at hc <;> try (cases hc; done)
    rename_i y ys h1 h2
    cases hc
    exact ok_call c ho hcal (ps := cl.args.toList) (by simp) (xopd_fit h1) (xopds_fit _ _ h2) hx
  · rename_i hcal
    split at hc <;> try (cases hc; done)
    rename_i p t h1 h2
    have ha : cl.args = #[p] := Array.toList_inj.1 h1
    have hat : cl.argTypes = #[t] := Array.toList_inj.1 h2
    split at hc <;> try (cases hc; done)
    · rename_i y k1 k2; cases hc; exact ok_lenS c ho hcal ha hat k1 (xopd_fit k2) hx
    · rename_i e y k1 k2; cases hc; exact ok_len c ho hcal ha hat k1 (xopd_fit k2) hx
    · rename_i kt et y k1 k2; cases hc; exact ok_lenM c ho hcal ha hat k1 (xopd_fit k2) hx
  · rename_i hcal
    split at hc <;> try (cases hc; done)
    rename_i p t h1 h2
    have ha : cl.args = #[p] := Array.toList_inj.1 h1
    have hat : cl.argTypes = #[t] := Array.toList_inj.1 h2
    split at hc <;> try (cases hc; done)
    rename_i e y k1 k2; cases hc; exact ok_capN c ho hcal ha hat k1 (xopd_fit k2) hx
  · rename_i hcal
    split at hc <;> try (cases hc; done)
    rename_i p q t t' h1 h2
    have ha : cl.args = #[p, q] := Array.toList_inj.1 h1
    split at hc
    rotate_left
    · have hat : cl.argTypes = #[t, t'] := Array.toList_inj.1 h2
      split at hc <;> try (cases hc; done)
      rename_i e kk ht ht'
      split at hc <;> try (cases hc; done)
      rename_i i y z k1 k2 k3
      split at hc <;> try (cases hc; done)
      rename_i zz hz
      split at hc <;> try (cases hc; done)
      rename_i zero h3
      split at hc <;> try (cases hc; done)
      rename_i hzs
      cases hc
      exact ok_appendZ c ho hcal ha hat ht ht' k1 hz hzs (fun G => by have := ofFlats_rel _ _ h3 G; simpa using this) (xopd_fit k2) (xopd_fit k3) hx hn
    rename_i htt; subst htt
    have hat : cl.argTypes = #[t, t] := Array.toList_inj.1 h2
    split at hc <;> try (cases hc; done)
    rename_i e ht
    split at hc <;> try (cases hc; done)
    rename_i i y z k1 k2 k3
    split at hc <;> try (cases hc; done)
    rename_i zz hz
    split at hc <;> try (cases hc; done)
    rename_i hzs
    split at hc
    · cases hc
      exact ok_appendV c ho hcal ha hat ht k1 hz hzs (xopd_fit k2) (xopd_fit k3) hx hn
    cases hc
    exact ok_append c ho hcal ha hat ht k1 hz hzs (xopd_fit k2) (xopd_fit k3) hx hn
  · rename_i hcal
    split at hc <;> try (cases hc; done)
    rename_i p q t ts h1 h2
    have ha : cl.args = #[p, q] := Array.toList_inj.1 h1
    have hat : cl.argTypes = (t :: ts).toArray := Array.toList_inj.1 h2
    split at hc <;> try (cases hc; done)
    rename_i e ht
    split at hc <;> try (cases hc; done)
    rename_i i y z k1 k2 k3
    cases hc
    exact ok_copy c ho hcal ha hat ht k1 (xopd_fit k2) (xopd_fit k3) hx
  · rename_i hcal
    split at hc <;> try (cases hc; done)
    rename_i p t h1 h2
    have ha : cl.args = #[p] := Array.toList_inj.1 h1
    have hat : cl.argTypes = #[t] := Array.toList_inj.1 h2
    split at hc <;> try (cases hc; done)
    rename_i y k2
    cases hc
    exact ok_part (im := false) c ho hcal ha hat (xopd_fit k2) hx
  · rename_i hcal
    split at hc <;> try (cases hc; done)
    rename_i p t h1 h2
    have ha : cl.args = #[p] := Array.toList_inj.1 h1
    have hat : cl.argTypes = #[t] := Array.toList_inj.1 h2
    split at hc <;> try (cases hc; done)
    rename_i y k2
    cases hc
    exact ok_part (im := true) c ho hcal ha hat (xopd_fit k2) hx
  · rename_i hcal
    split at hc <;> try (cases hc; done)
    rename_i p q h1
    have ha : cl.args = #[p, q] := Array.toList_inj.1 h1
    split at hc <;> try (cases hc; done)
    rename_i y z k2 k3
    cases hc
    exact ok_cpx c ho hcal ha (xopd_fit k2) (xopd_fit k3) hx
  · rename_i hcal
    split at hc <;> try (cases hc; done)
    rename_i y ys h1
    cases hc
    have hf := xopds_fit _ _ h1
    generalize hl : cl.args.toList = l at hf
    cases hf with
    | cons g1 g2 => exact ok_ext (m := true) c ho hcal (by rw [← hl]) g1 g2 hx
  · rename_i hcal
    split at hc <;> try (cases hc; done)
    rename_i y ys h1
    cases hc
    have hf := xopds_fit _ _ h1
    generalize hl : cl.args.toList = l at hf
    cases hf with
    | cons g1 g2 => exact ok_ext (m := false) c ho hcal (by rw [← hl]) g1 g2 hx

theorem comp_ok {nofz : List FuncId} {o : Oper} {x : XOp} (hc : xcomp P nofz o.op = some x) (c : At G σ w tm a) {r : XRes} (hx : xop x tm σ = some r) (hn : News G σ (r.nx σ)) : OpOk P o a G σ w r := by
  generalize ho : o.op = op at hc
  unfold xcomp at hc
  split at hc <;> try (cases hc; done)
  · obtain ⟨y, h1, rfl⟩ := map_some hc; exact ok_mov c (.inl ho) (xopd_fit h1) hx
  · obtain ⟨y, h1, rfl⟩ := map_some hc; exact ok_mov c (.inr ho) (xopd_fit h1) hx
  · split at hc <;> try (cases hc; done)
    rename_i h1 h2 h3; cases hc
    exact ok_pick c ho (xopd_fit h1) (xopd_fit h2) (xopd_fit h3) hx
  · split at hc <;> try (cases hc; done)
    rename_i i hi
    split at hc <;> try (cases hc; done)
    rename_i z hz
    obtain ⟨cs, h1, rfl⟩ := map_some hc
    exact ok_new c ho hi hz (fun G => by have := ofFlats_rel _ _ h1 G; simpa using this) hx hn
  · obtain ⟨y, h1, rfl⟩ := map_some hc; exact ok_box c ho (xopd_fit h1) hx hn
  · rename_i t ps
    split at hc <;> try (cases hc; done)
    · rename_i it fs hi hu
      split at hc <;> try (cases hc; done)
      rename_i z pl hz hpl
      split at hc <;> try (cases hc; done)
      rename_i zero xs h1 h2
      cases hc
      exact ok_buildS c (ps := ps.toList) (by simp [ho]) hi hu hz hpl (fun G => by have := ofFlats_rel _ _ h1 G; simpa using this) (xparts_fit _ _ h2) hx
    · rename_i it n e hi hu
      split at hc <;> try (cases hc; done)
      rename_i z ie hz he
      split at hc <;> try (cases hc; done)
      rename_i zero xs h1 h2
      cases hc
      exact ok_buildA c (ps := ps.toList) (by simp [ho]) hi hu hz he (fun G => by have := ofFlats_rel _ _ h1 G; simpa using this) (xparts_fit _ _ h2) hx
  · rename_i t len ps
    split at hc <;> try (cases hc; done)
    rename_i e hu
    split at hc <;> try (cases hc; done)
    rename_i ie d hie hd
    split at hc <;> try (cases hc; done)
    rename_i z hz
    split at hc <;> try (cases hc; done)
    rename_i hsm
    split at hc <;> try (cases hc; done)
    rename_i zero xs h1 h2
    split at hc
    · cases hc
      exact ok_buildSliceF c (ps := ps.toList) (by simp [ho]) hu hie hz hsm (fun G => by have := ofFlats_rel _ _ h1 G; rwa [Array.toArray_toList] at this) (xparts_fit _ _ h2) hx hn
    cases hc
    exact ok_buildSlice c (ps := ps.toList) (by simp [ho]) hu hie hz hsm (fun G => by have := ofFlats_rel _ _ h1 G; rwa [Array.toArray_toList] at this) (xparts_fit _ _ h2) hx hn
  · split at hc <;> try (cases hc; done)
    rename_i d y h1 h2
    split at hc
    · rename_i hd
      rw [isAggB_eq] at hd
      split at hc <;> try (cases hc; done)
      rename_i i hi
      cases hc
      exact ok_loadn c ho (xopd_fit h2) h1 hd hi hx
    · rename_i hd
      rw [isAggB_eq] at hd
      cases hc
      exact ok_load1 c ho (xopd_fit h2) h1 (by simpa using hd) hx
  · split at hc <;> try (cases hc; done)
    rename_i i y z hi h1 h2
    cases hc
    exact ok_store c ho (xopd_fit h1) (xopd_fit h2) hi hx
  · obtain ⟨y, h1, rfl⟩ := map_some hc; exact ok_nilchk c ho (xopd_fit h1) hx
  · split at hc <;> try (cases hc; done)
    rename_i ms y h1 h2
    split at hc <;> try (cases hc; done)
    · cases hc; exact ok_isnil c ho (.inl ⟨rfl, rfl⟩) h1 (xopd_fit h2) hx
    · cases hc; exact ok_isnil c ho (.inr ⟨rfl, rfl⟩) h1 (xopd_fit h2) hx
  · split at hc <;> try (cases hc; done)
    rename_i ms y h1 h2
    split at hc <;> try (cases hc; done)
    · cases hc; exact ok_isnilS c ho (.inl ⟨rfl, rfl⟩) h1 (xopd_fit h2) hx
    · cases hc; exact ok_isnilS c ho (.inr ⟨rfl, rfl⟩) h1 (xopd_fit h2) hx
  · split at hc <;> try (cases hc; done)
    · rename_i y z ht h1 h2
      split at hc <;> try (cases hc; done)
      · cases hc; exact ok_eqb c false rfl ho ht (xopd_fit h1) (xopd_fit h2) hx
      · cases hc; exact ok_eqb c true rfl ho ht (xopd_fit h1) (xopd_fit h2) hx
    · rename_i k y z ht h1 h2; cases hc; exact ok_bin c ho (xopd_fit h1) (xopd_fit h2) hx
    · rename_i y z ht h1 h2; cases hc; exact ok_bin c ho (xopd_fit h1) (xopd_fit h2) hx
    · rename_i k y z ht h1 h2; cases hc; exact ok_bin c ho (xopd_fit h1) (xopd_fit h2) hx
    · rename_i k y z ht h1 h2; cases hc; exact ok_bin c ho (xopd_fit h1) (xopd_fit h2) hx
    · rename_i fs y z ht h1 h2
      split at hc <;> try (cases hc; done)
      rename_i hg
      split at hc <;> try (cases hc; done)
      rename_i e he
      have hf := esOf_fit 20 _ _ he
      have hes : ∃ l, e = .s l := by
        cases hf with
        | int _ _ k hk => rw [ht] at hk; cases hk
        | bool _ _ hk => rw [ht] at hk; cases hk
        | string _ _ hk => rw [ht] at hk; cases hk
        | struct _ _ fs es => exact ⟨es, rfl⟩
        | array => exact ⟨_, rfl⟩
      split at hc <;> try (cases hc; done)
      · cases hc; exact ok_eqA c (by omega) false rfl ho hf hes (by simpa using hg) (xopd_fit h1) (xopd_fit h2) hx
      · cases hc; exact ok_eqA c (by omega) true rfl ho hf hes (by simpa using hg) (xopd_fit h1) (xopd_fit h2) hx
    · rename_i m te y z ht h1 h2
      split at hc <;> try (cases hc; done)
      rename_i hg
      split at hc <;> try (cases hc; done)
      rename_i e he
      have hf := esOf_fit 20 _ _ he
      have hes : ∃ l, e = .s l := by
        cases hf with
        | int _ _ k hk => rw [ht] at hk; cases hk
        | bool _ _ hk => rw [ht] at hk; cases hk
        | string _ _ hk => rw [ht] at hk; cases hk
        | struct _ _ fs es => exact ⟨es, rfl⟩
        | array => exact ⟨_, rfl⟩
      split at hc <;> try (cases hc; done)
      · cases hc; exact ok_eqA c (by omega) false rfl ho hf hes (by simpa using hg) (xopd_fit h1) (xopd_fit h2) hx
      · cases hc; exact ok_eqA c (by omega) true rfl ho hf hes (by simpa using hg) (xopd_fit h1) (xopd_fit h2) hx
  · obtain ⟨y, h1, rfl⟩ := map_some hc; exact ok_un c ho (xopd_fit h1) hx
  · split at hc <;> try (cases hc; done)
    · rename_i k y h1 h2 h3
      cases hc
      exact ok_toInt c ho h1 h2 (xopd_fit h3) hx
    · rename_i ds k y h1 h2 h3
      cases hc
      exact ok_conv c ho (by assumption) (by assumption) (xopd_fit (by assumption)) hx
    · rename_i ds k y h1 h2 h3
      cases hc
      exact ok_toFloat c ho (by assumption) (by assumption) (xopd_fit (by assumption)) hx
  · rename_i f first caps
    split at hc <;> try (cases hc; done)
    rename_i xs ys h1 h2
    cases hc
    exact ok_fn c (ps := first.toList) (qs := caps.toList) (by simp [ho]) (xopds_fit _ _ h1) (xopds_fit _ _ h2) hx
  · split at hc <;> try (cases hc; done)
    rename_i e hu
    split at hc <;> try (cases hc; done)
    rename_i i y h m hi h1 h2 h3
    cases hc
    exact ok_clip c ho hu hi (xopd_fit h1) (xopd_fit h2) (xopd_fit h3) hx hn
  · split at hc <;> try (cases hc; done)
    rename_i e hu
    split at hc <;> try (cases hc; done)
    rename_i i y l hi h1 h2
    split at hc
    · cases hc; exact ok_sliceF c ho hu hi (xopd_fit h1) (xopd_fit h2) hx hn
    · cases hc; exact ok_slice c ho hu hi (xopd_fit h1) (.some (xopd_fit h2)) .none hx
  · split at hc <;> try (cases hc; done)
    rename_i e hu
    split at hc <;> try (cases hc; done)
    rename_i i y h hi h1 h2
    split at hc
    · cases hc; exact ok_sliceV c ho hu hi (xopd_fit h1) (xopd_fit h2) hx
    · cases hc; exact ok_slice c ho hu hi (xopd_fit h1) .none (.some (xopd_fit h2)) hx
  · split at hc <;> try (cases hc; done)
    · rename_i e hu
      split at hc <;> try (cases hc; done)
      rename_i i y l h hi h1 h2 h3
      cases hc
      exact ok_slice c ho hu hi (xopd_fit h1) (xopdM_fit h2) (xopdM_fit h3) hx
    · rename_i n e hu
      split at hc <;> try (cases hc; done)
      cases hc
      exact ok_sliceArr c ho (by assumption) (by assumption) (xopd_fit (by assumption)) hx
  · split at hc <;> try (cases hc; done)
    rename_i fs hu
    split at hc <;> try (cases hc; done)
    rename_i f hf
    split at hc <;> try (cases hc; done)
    rename_i i y hi h1
    split at hc <;> try (cases hc; done)
    rename_i hz
    cases hc
    exact ok_faddr c ho hu hf hi hz (xopd_fit h1) hx
  · split at hc <;> try (cases hc; done)
    rename_i fs hu
    split at hc <;> try (cases hc; done)
    rename_i f hf
    split at hc <;> try (cases hc; done)
    rename_i i d y hi hd h1
    cases hc
    rw [isAggB_eq] at hx
    exact ok_field c ho hu hf hi hd (xopd_fit h1) hx
  · split at hc <;> try (cases hc; done)
    · rename_i e y z hu h1 h2
      split at hc <;> try (cases hc; done)
      rename_i ie hie
      cases hc
      exact ok_iaddr c ho hu hie (xopd_fit h1) (xopd_fit h2) hx
    · rename_i n e y z hu h1 h2
      split at hc <;> try (cases hc; done)
      rename_i ie hie
      cases hc
      exact ok_iaddrA c ho hu hie (xopd_fit h1) (xopd_fit h2) hx
  · split at hc <;> try (cases hc; done)
    · rename_i y z hu h1 h2
      cases hc
      exact ok_indexS c ho hu (xopd_fit h1) (xopd_fit h2) hx
    · rename_i n e y z hu h1 h2
      split at hc <;> try (cases hc; done)
      rename_i ie d hie hd
      cases hc
      rw [isAggB_eq] at hx
      exact ok_index c ho hu hie hd (xopd_fit h1) (xopd_fit h2) hx
  · obtain ⟨y, h1, rfl⟩ := map_some hc; exact ok_extract c ho (xopd_fit h1) hx
  · split at hc <;> try (cases hc; done)
    rename_i e hu
    split at hc <;> try (cases hc; done)
    rename_i i y z hi h1 h2
    split at hc <;> try (cases hc; done)
    rename_i z hz
    split at hc <;> try (cases hc; done)
    rename_i zero h3
    split at hc <;> try (cases hc; done)
    rename_i h0
    cases hc
    exact ok_makeSlice c ho hu hi hz (fun G => by have := ofFlats_rel _ _ h3 G; simpa using this) h0 (xopd_fit h1) (xopd_fit h2) hx hn
  · exact xcall_ok ho hc c hx hn
  · cases hc; exact ok_mkmap c ho hx hn
  · split at hc <;> try (cases hc; done)
    rename_i kt et hu
    split at hc <;> try (cases hc; done)
    · rename_i kk i y z hk hi h1 h2
      split at hc <;> try (cases hc; done)
      rename_i zv hz
      split at hc <;> try (cases hc; done)
      rename_i zero h3
      cases hc
      obtain ⟨d, hd, hf⟩ := Option.bind_eq_some_iff.1 hk
      exact ok_lookup c ho hu hd (kfit_fit hf) hi hz (fun G => ofVal_rel h3 G) (xopd_fit h1) (xopd_fit h2) hx
    · rename_i i y z hi h1 h2
      split at hc <;> try (cases hc; done)
      rename_i zv fs hz he
      split at hc <;> try (cases hc; done)
      rename_i zero h3
      cases hc
      have hf := esOf_fit 20 _ _ he
      obtain ⟨d, hd⟩ := sfit_under hf
      exact ok_lookupS c ho hu hd hf (by omega) hi hz (fun G => ofVal_rel h3 G) (xopd_fit h1) (xopd_fit h2) hx
  · split at hc <;> try (cases hc; done)
    rename_i kt et hu
    split at hc <;> try (cases hc; done)
    · rename_i kk y z v hk h1 h2 h3
      cases hc
      obtain ⟨d, hd, hf⟩ := Option.bind_eq_some_iff.1 hk
      exact ok_mapupd c (.inl ho) hu hd (kfit_fit hf) (xopd_fit h1) (xopd_fit h2) (xopd_fit h3) hx
    · rename_i y z v h1 h2 h3
      split at hc <;> try (cases hc; done)
      rename_i fs he
      cases hc
      have hf := esOf_fit 20 _ _ he
      obtain ⟨d, hd⟩ := sfit_under hf
      exact ok_mapupdS c (.inl ho) hu hd hf (by omega) (xopd_fit h1) (xopd_fit h2) (xopd_fit h3) hx
  · split at hc <;> try (cases hc; done)
    rename_i kt et hu
    split at hc <;> try (cases hc; done)
    · rename_i kk y z v hk h1 h2 h3
      cases hc
      obtain ⟨d, hd, hf⟩ := Option.bind_eq_some_iff.1 hk
      exact ok_mapupd c (.inr ho) hu hd (kfit_fit hf) (xopd_fit h1) (xopd_fit h2) (xopd_fit h3) hx
    · rename_i y z v h1 h2 h3
      split at hc <;> try (cases hc; done)
      rename_i fs he
      cases hc
      have hf := esOf_fit 20 _ _ he
      obtain ⟨d, hd⟩ := sfit_under hf
      exact ok_mapupdS c (.inr ho) hu hd hf (by omega) (xopd_fit h1) (xopd_fit h2) (xopd_fit h3) hx
  · split at hc <;> try (cases hc; done)
    rename_i kt et hu
    obtain ⟨y, h1, rfl⟩ := map_some hc
    exact ok_mkiter c ho hu (xopd_fit h1) hx hn
  · obtain ⟨y, h1, rfl⟩ := map_some hc; exact ok_nextM c ho (xopd_fit h1) hx
  · obtain ⟨y, h1, rfl⟩ := map_some hc; exact ok_entryM c ho (xopd_fit h1) hx

theorem mov_of {nofz : List FuncId} {o : Oper} {x : XOpd} (hc : xcomp P nofz o.op = some (.mov x)) : ∃ p, (o.op = .move p ∨ o.op = .assign p) ∧ OFit p x := by
  unfold xcomp at hc
  split at hc
  · rename_i p ho; obtain ⟨y, h1, h2⟩ := map_some hc; cases h2; exact ⟨p, .inl ho, xopd_fit h1⟩
  · rename_i p ho; obtain ⟨y, h1, h2⟩ := map_some hc; cases h2; exact ⟨p, .inr ho, xopd_fit h1⟩
  all_goals
    exfalso
    try unfold xcall at hc
    repeat' (first | (cases hc; done) | (obtain ⟨_, _, h2⟩ := map_some hc; cases h2; done) | split at hc)
theorem comp_okF {nofz : List FuncId} {ops : Array Oper} {o : Oper} {x : XOp} (hc : xcompF P nofz ops o = some x) (c : At G σ w tm a) {r : XRes} (hx : xop x tm σ = some r) (hn : News G σ (r.nx σ)) : OpOk P o a G σ w r := by
  unfold xcompF at hc
  split at hc
  · rename_i y hy
    split at hc
    · cases hc
      obtain ⟨p, h1, h2⟩ := mov_of hy
      exact ok_movf c h1 h2 hx
    · cases hc
      exact comp_ok hy c hx hn
  · rename_i hy
    cases hc
    exact comp_ok hy c hx hn
  · split at hc
    · cases hc
    · cases hc
      simp [xstuck, xop, XOpd.eval] at hx
end
end Go.Proofs.Ytgijgcmcpgepaaa.Eng
