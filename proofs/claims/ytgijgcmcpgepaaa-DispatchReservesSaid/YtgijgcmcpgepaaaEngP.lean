/-
  ENGINE, P: operations fit: maps, interfaces that are nil or not.
-/
import Derived.Test.YtgijgcmcpgepaaaEngH
import Derived.Laws.IdiomRangeMap
import Derived.DeepKeys3
namespace Go.Proofs.Ytgijgcmcpgepaaa.Eng
set_option linter.unusedSimpArgs false
set_option linter.unusedVariables false
section
variable {P : Program} {G : Ghost} {σ : Store} {w : World} {tm : List AVal} {a : Act}

theorem moved_newO (h : Core G σ.get w) (hf : Fresh G σ.get σ.next) {x : OObj} {ob : Obj} (hr : OthRel G x ob) :
    ∃ G', Moved G σ w G' (σ.new (.oth x)) (w.alloc ob) ∧ G'.ρ σ.next = some w.heap.size := by
  obtain ⟨h1, h2, h3⟩ := core_newO h hf hr
  refine ⟨G.withRho σ.next w.heap.size, ⟨by rw [Store.get_new]; exact h1, by rw [Store.get_new]; exact h2, Nat.le_succ _, fun m hm hfr => ⟨?_, fun _ => rfl, ?_⟩⟩, h3⟩
  · have hne : m ≠ σ.next := by simp [Store.new] at hm; omega
    simp [Ghost.withRho, hne]
  · have hne : σ.next ≠ m := by simp [Store.new] at hm; omega
    rw [Store.get_new, Mem.put_ne _ hne]; exact hfr
theorem moved_setO (h : Core G σ.get w) {n b : Nat} {x : OObj} (hg : σ.get n = some (.oth x)) (hb : G.ρ n = some b) {y : OObj} {ob : Obj} (hy : OthRel G y ob) (hk : ∀ st tm ps a b, x = .loop st tm ps a b → ∃ st' tm' ps' a' b', y = .loop st' tm' ps' a' b') :
    Moved G σ w G (σ.put n (.oth y)) { w with heap := w.heap.setIfInBounds b ob } := by
  obtain ⟨h1, h2⟩ := core_setO h hg hb hy hk
  refine ⟨by rw [Store.get_put]; exact h1, by rw [Store.get_put]; exact h2, Nat.le_refl _, fun m hm hfr => ⟨rfl, fun _ => rfl, ?_⟩⟩
  have hne : n ≠ m := by rintro rfl; rw [hfr] at hg; cases hg
  rw [Store.get_put, Mem.put_ne _ hne]; exact hfr

theorem ba_beq {a b : ByteArray} (h : (a == b) = true) : a = b := by
  cases a with | mk d => cases b with | mk d' =>
  have : (d == d') = true := h
  rw [eq_of_beq this]
theorem ba_self (a : ByteArray) : (a == a) = true := by
  cases a with | mk d => exact (beq_self_eq_true d : (d == d) = true)
/-- The kinds of keys. -/
inductive KFit : Nat → TypeDesc → Prop
  | int (k : IntKind) : KFit 0 (.int k)
  | bool : KFit 1 .bool
  | str : KFit 2 .string

theorem sameNow_rel {kk : Nat} {d : TypeDesc} (hd : KFit kk d) {k k' : AVal} {u u' : Value} (h : VRel G k u) (h' : VRel G k' u') {b : Bool} (hk : keyEq kk k k' = some b) :
    Instr.sameNow d u u' = some b ∧ (b = true → Instr.sameBits 10000 u' u = true) := by
  unfold keyEq at hk
  split at hk <;> try (cases hk; done)
  all_goals
    split at hk <;> try (cases hk; done)
    rename_i hc
    cases hk
    cases h; cases h'
  · obtain ⟨rfl, rfl⟩ := hc
    cases hd
    refine ⟨by simp [Instr.sameNow], fun hb => ?_⟩
    have : _ = _ := eq_of_beq hb
    subst this
    simp [Instr.sameBits]
  · subst hc
    cases hd
    refine ⟨rfl, fun hb => ?_⟩
    have : _ = _ := eq_of_beq hb
    subst this
    simp [Instr.sameBits]
  · subst hc
    cases hd
    refine ⟨rfl, fun hb => ?_⟩
    have := ba_beq hb
    subst this
    simp [Instr.sameBits, ba_self]

theorem findNow_rel {kk : Nat} {d : TypeDesc} (hd : KFit kk d) {k : AVal} {u : Value} (h : VRel G k u) : ∀ (es : List (AVal × AVal)) (ents : List MapEntry) (i : Nat), es.length = ents.length → (∀ (j : Nat) (p : AVal × AVal) (e : MapEntry), es[j]? = some p → ents[j]? = some e → VRel G p.1 e.key ∧ VRel G p.2 e.val) → ∀ r, xfind kk k es i = some r →
    match r with
    | none => Instr.findNow d u ents i = some none
    | some (j, v) => ∃ (e : MapEntry) (q : Nat), Instr.findNow d u ents i = some (some (j, e.val)) ∧ j = i + q ∧ ents[q]? = some e ∧ VRel G v e.val ∧ Instr.sameBits 10000 e.key u = true
  | [], [], i, _, _, r, hx => by simp only [xfind] at hx; cases hx; rfl
  | [], _ :: _, _, hl, _, _, _ => by simp at hl
  | _ :: _, [], _, hl, _, _, _ => by simp at hl
  | p :: es, e :: ents, i, hl, hr, r, hx => by
    have h0 := hr 0 p e rfl rfl
    simp only [xfind] at hx
    split at hx <;> try (cases hx; done)
    · rename_i hk
      cases hx
      obtain ⟨s1, s2⟩ := sameNow_rel hd h h0.1 hk
      exact ⟨e, 0, by simp [Instr.findNow, s1], rfl, rfl, h0.2, s2 rfl⟩
    · rename_i hk
      obtain ⟨s1, _⟩ := sameNow_rel hd h h0.1 hk
      have ih := findNow_rel hd h es ents (i + 1) (by simpa using hl) (fun j p e h1 h2 => hr (j + 1) p e (by simpa using h1) (by simpa using h2)) r hx
      cases r with
      | none => simp only [Instr.findNow, s1]; exact ih
      | some jv =>
        obtain ⟨j, v⟩ := jv
        obtain ⟨e', q, i1, i2, i3, i4, i5⟩ := ih
        exact ⟨e', q + 1, by simp only [Instr.findNow, s1]; exact i1, by omega, by simpa using i3, i4, i5⟩

theorem checkKey_run {kk : Nat} {t : TypeId} {d : TypeDesc} (hd : KFit kk d) (ht : P.underlying t = some d) {k : AVal} {u : Value} (h : VRel G k u) (hk : keyOk kk k = true) (b : Bool) (w : World) : (Instr.checkKey b 10000 t u).run P w = .ok () w := by
  unfold keyOk at hk
  split at hk
  · cases hd; cases h
    rw [show (10000 : Nat) = 9999 + 1 from rfl, Instr.checkKey]
    simp only [Sem.run_bind, run_underlying ht, Result.andThen_ok]; rfl
  · cases hd; cases h
    rw [show (10000 : Nat) = 9999 + 1 from rfl, Instr.checkKey]
    simp only [Sem.run_bind, run_underlying ht, Result.andThen_ok]; rfl
  · cases hd; cases h
    rw [show (10000 : Nat) = 9999 + 1 from rfl, Instr.checkKey]
    simp only [Sem.run_bind, run_underlying ht, Result.andThen_ok]; rfl
  · cases hk
theorem findKey_run {kk : Nat} {t : TypeId} {d : TypeDesc} (ht : P.underlying t = some d) {u : Value} {ents : List MapEntry} {r : Option (Nat × Value)} (h : Instr.findNow d u ents 0 = some r) (w : World) : (Instr.findKey t u ents).run P w = .ok r w := by
  simp [Instr.findKey, run_underlying ht, h]

theorem entries_rel (c : Core G σ.get w) {x : AVal} {v : Value} (h : VRel G x v) {es : List (AVal × AVal)} (hx : xentries σ x = some es) :
    (v = .map none ∧ es = []) ∨ ∃ b ents clock, v = .map (some b) ∧ w.heap[b]? = some (.map ents clock) ∧ es.length = ents.size ∧ ∀ (i : Nat) (p : AVal × AVal) (e : MapEntry), es[i]? = some p → ents[i]? = some e → VRel G p.1 e.key ∧ VRel G p.2 e.val := by
  unfold xentries at hx
  split at hx
  · cases hx; cases h; exact .inl ⟨rfl, rfl⟩
  · split at hx <;> try (cases hx; done)
    rename_i n _ es' hg
    cases hx
    cases h with
    | map _ b hn =>
      obtain ⟨b', ob, h1, h2, h3, _⟩ := c.obj n _ hg
      rw [hn] at h1; cases h1
      obtain ⟨ents, rfl, k1, k2, _⟩ := h3
      exact .inr ⟨b, ents, ents.size, rfl, h2, k1, k2⟩
  · cases hx

theorem getObj_run {b : Nat} {o : Obj} (h : w.heap[b]? = some o) (hc : ∀ c t f, o ≠ .cells c t f) : (getObj b).run P w = .ok o w := by
  cases o <;> first | (simp only [getObj, Sem.run, h]; done) | exact absurd rfl (hc _ _ _)
theorem setObj_run {b : Nat} {o : Obj} (h : w.heap[b]? = some o) (hc : ∀ c t f, o ≠ .cells c t f) (o' : Obj) : (setObj b o').run P w = .ok () { w with heap := w.heap.setIfInBounds b o' } := by
  cases o <;> first | (simp only [setObj, Sem.run, h]; done) | exact absurd rfl (hc _ _ _)

theorem ok_mkmap (c : At G σ w tm a) {o : Oper} {t : TypeId} (ho : o.op = .makeMap t none) {r : XRes} (hx : xop .mkmap tm σ = some r) (hn : News G σ (r.nx σ)) : OpOk P o a G σ w r := by
  simp only [xop] at hx; cases hx
  obtain ⟨G', hm, hr⟩ := moved_newO (x := .map []) (ob := .map #[] 0) c.core (hn _ (Nat.le_refl _) (Nat.lt_succ_self _)) ⟨#[], rfl, rfl, fun i p e h1 h2 => by simp at h1, fun i e h1 => by simp at h1⟩
  refine ⟨.map (some w.heap.size), w.alloc (.map #[] 0), G', .inl ?_, .map _ _ hr, hm⟩
  simp [execOp, ho, Instr.makeMap]

theorem ok_lookup (c : At G σ w tm a) {o : Oper} {t kt et : TypeId} {d : TypeDesc} {kk : Nat} {i : TypeInfo} {z : Value} {zero : AVal} {ok : Bool} {p q : Operand} {x y : XOpd} (ho : o.op = .lookup t p q ok) (ht : P.underlying t = some (.map kt et)) (hk : P.underlying kt = some d) (hd : KFit kk d) (hi : P.info? et = some i) (hz : i.zero = some z) (hzr : ∀ G, VRel G zero z) (hp : OFit p x) (hq : OFit q y) {r : XRes} (hx : xop (.lookup kk zero ok x y) tm σ = some r) : OpOk P o a G σ w r := by
  have h1 := hp.rel c.rel
  have h2 := hq.rel c.rel
  simp only [xop] at hx
  split at hx <;> try (cases hx; done)
  rename_i es hes
  split at hx <;> try (cases hx; done)
  rename_i hko
  have fin : ∀ (ents : List MapEntry), es.length = ents.length → (∀ (j : Nat) (p : AVal × AVal) (e : MapEntry), es[j]? = some p → ents[j]? = some e → VRel G p.1 e.key ∧ VRel G p.2 e.val) → ∃ (v : AVal) (f : Bool) (v' : Value), r = .val (if ok then .tup [v, .bool f] else v) σ ∧ VRel G v v' ∧ ∀ w' : World, (do
      let (v, f) ← match ← Instr.findKey kt (a.eval q) ents with
        | some (_, v) => pure (v, true)
        | none => pure (← zeroValue et, false)
      pure (if ok then Value.tuple #[v, .bool f] else v) : Sem Value).run P w' = .ok (if ok then .tuple #[v', .bool f] else v') w' := by
    intro ents hl hr
    split at hx <;> try (cases hx; done)
    · rename_i j v hf
      cases hx
      obtain ⟨e, q', f1, f2, f3, f4, f5⟩ := findNow_rel hd h2 es ents 0 hl hr _ hf
      refine ⟨v, true, e.val, rfl, f4, fun w' => ?_⟩
      simp [findKey_run (kk := kk) hk f1]
    · rename_i hf
      cases hx
      have f1 := findNow_rel hd h2 es ents 0 hl hr _ hf
      refine ⟨zero, false, z, rfl, hzr G, fun w' => ?_⟩
      simp [findKey_run (kk := kk) hk f1, zero_run hi hz]
  have done : ∀ {v : AVal} {f : Bool} {v' : Value}, VRel G v v' → VRel G (if ok then .tup [v, .bool f] else v) (if ok then .tuple #[v', .bool f] else v') := fun {v f v'} hv => by
    cases ok
    · exact hv
    · refine VRel.mk_tup ⟨rfl, fun i y u e1 e2 => ?_⟩
      match i with
      | 0 => simp at e1 e2; subst e1; subst e2; exact hv
      | 1 => simp at e1 e2; subst e1; subst e2; exact .bool _
      | i + 2 => simp at e1
  rcases entries_rel c.core h1 hes with ⟨e1, rfl⟩ | ⟨b, ents, clock, e1, e2, e3, e4⟩
  · obtain ⟨v, f, v', rfl, hv, hrun⟩ := fin [] rfl (fun j p e h => by simp at h)
    refine OpOk.pure c.core (v' := if ok then .tuple #[v', .bool f] else v') ?_ (done hv)
    have := hrun w
    simp only [execOp, ho, Instr.lookup, Sem.run_bind, run_underlying ht, e1, Result.andThen_ok, Sem.run_pure, checkKey_run hd hk h2 hko] at this ⊢
    revert this
    generalize Instr.findKey kt (a.eval q) [] = s
    intro this
    cases hs : s.run P w with
    | halt h w1 => rw [hs] at this; simp [Result.andThen] at this
    | ok fk w1 =>
      rw [hs] at this
      simp only [Result.andThen_ok] at this ⊢
      cases fk <;> simp_all
  · obtain ⟨v, f, v', rfl, hv, hrun⟩ := fin ents.toList (by simpa using e3) (fun j p e h1 h2 => e4 j p e h1 (by simpa using h2))
    refine OpOk.pure c.core (v' := if ok then .tuple #[v', .bool f] else v') ?_ (done hv)
    have := hrun w
    simp only [execOp, ho, Instr.lookup, Sem.run_bind, run_underlying ht, e1, getObj_run e2 (by simp), Result.andThen_ok, Sem.run_pure, checkKey_run hd hk h2 hko] at this ⊢
    revert this
    generalize Instr.findKey kt (a.eval q) ents.toList = s
    intro this
    cases hs : s.run P w with
    | halt h w1 => rw [hs] at this; simp [Result.andThen] at this
    | ok fk w1 =>
      rw [hs] at this
      simp only [Result.andThen_ok] at this ⊢
      cases fk <;> simp_all

theorem born_modify {ents : Array MapEntry} (h : ∀ (i : Nat) (e : MapEntry), ents[i]? = some e → e.born = i) (j : Nat) {k v : Value} : ∀ (i : Nat) (e : MapEntry), (ents.modify j fun e => { e with key := k, val := v })[i]? = some e → e.born = i := by
  intro i e he
  rw [Array.getElem?_modify] at he
  split at he
  · rename_i hij
    subst hij
    obtain ⟨e', h1, h2⟩ := map_some he
    subst h2; exact h j e' h1
  · exact h _ _ he
theorem born_push {ents : Array MapEntry} (h : ∀ (i : Nat) (e : MapEntry), ents[i]? = some e → e.born = i) {k v : Value} : ∀ (i : Nat) (e : MapEntry), (ents.push { key := k, val := v, born := ents.size })[i]? = some e → e.born = i := by
  intro i e he
  rw [Array.getElem?_push] at he
  split at he
  · rename_i hi; cases he; exact hi.symm
  · exact h _ _ he
theorem ok_mapupd (c : At G σ w tm a) {o : Oper} {t kt et : TypeId} {d : TypeDesc} {kk : Nat} {p q s : Operand} {x y z : XOpd} (ho : o.op = .mapUpdate t p q s ∨ o.op = .insert t p q s) (ht : P.underlying t = some (.map kt et)) (hk : P.underlying kt = some d) (hd : KFit kk d) (hp : OFit p x) (hq : OFit q y) (hs : OFit s z) {r : XRes} (hx : xop (.mapupd kk x y z) tm σ = some r) : OpOk P o a G σ w r := by
  have h1 := hp.rel c.rel
  have h2 := hq.rel c.rel
  have h3 := hs.rel c.rel
  simp only [xop] at hx
  split at hx <;> try (cases hx; done)
  rename_i n he
  split at hx <;> try (cases hx; done)
  rename_i es hg
  split at hx <;> try (cases hx; done)
  rename_i hko
  rw [he] at h1
  generalize hu : a.eval p = u at h1
  cases h1 with
  | map _ b hn =>
    obtain ⟨b', ob, g1, g2, g3, _⟩ := c.core.obj n _ hg
    rw [hn] at g1; cases g1
    obtain ⟨ents, rfl, k1, k2, k9⟩ := g3
    have k2' : ∀ (j : Nat) (p : AVal × AVal) (e : MapEntry), es[j]? = some p → ents.toList[j]? = some e → VRel G p.1 e.key ∧ VRel G p.2 e.val := fun j p e h1 h2 => k2 j p e h1 (by simpa using h2)
    split at hx <;> try (cases hx; done)
    · rename_i j v hf
      cases hx
      obtain ⟨e, q', f1, f2, f3, f4, f5⟩ := findNow_rel hd h2 es ents.toList 0 (by simpa using k1) k2' _ hf
      have hj : j = q' := by omega
      subst hj
      have f3' : ents[j]? = some e := by simpa using f3
      have hy : OthRel G (.map (es.set j (y.eval tm, z.eval tm))) (.map (ents.modify j fun e => { e with key := a.eval q, val := a.eval s }) ents.size) := by
        refine ⟨ents.modify j fun e => { e with key := a.eval q, val := a.eval s }, by rw [Array.size_modify], by simp [k1], fun i p e' h4 h5 => ?_, born_modify (k := a.eval q) (v := a.eval s) k9 j⟩
        by_cases hij : j = i
        · subst hij
          have hlt : j < es.length := by have := (List.getElem?_eq_some_iff.1 h4).1; simpa using this
          rw [List.getElem?_set_self hlt] at h4
          cases h4
          rw [Array.getElem?_modify, if_pos rfl, f3'] at h5
          cases h5
          exact ⟨h2, h3⟩
        · rw [List.getElem?_set_ne hij] at h4
          rw [Array.getElem?_modify, if_neg hij] at h5
          exact k2 i p e' h4 h5
      refine ⟨undef, _, G, .inr ⟨?_, rfl⟩, undef_rel G, moved_setO c.core hg hn hy (fun _ _ _ _ _ h => by cases h)⟩
      rcases ho with ho | ho <;> simp [execOp, ho, hu, Instr.mapUpdate, run_underlying ht, getObj_run g2 (by simp), checkKey_run hd hk h2 hko, findKey_run (kk := kk) hk f1, f3', Instr.keyThatStays, f5, setObj_run g2 (by simp)]
    · rename_i hf
      cases hx
      have f1 := findNow_rel hd h2 es ents.toList 0 (by simpa using k1) k2' _ hf
      have hy : OthRel G (.map (es ++ [(y.eval tm, z.eval tm)])) (.map (ents.push { key := a.eval q, val := a.eval s, born := ents.size }) (ents.size + 1)) := by
        refine ⟨ents.push { key := a.eval q, val := a.eval s, born := ents.size }, by rw [Array.size_push], by simp [k1], fun i p e' h4 h5 => ?_, born_push (k := a.eval q) (v := a.eval s) k9⟩
        by_cases hij : i < es.length
        · rw [List.getElem?_append_left hij] at h4
          rw [Array.getElem?_push, if_neg (by omega)] at h5
          exact k2 i p e' h4 h5
        · have hi : i = es.length := by have := (List.getElem?_eq_some_iff.1 h4).1; simp at this; omega
          subst hi
          rw [List.getElem?_append_right (Nat.le_refl _), Nat.sub_self] at h4
          rw [Array.getElem?_push, if_pos (by omega)] at h5
          cases h4; cases h5
          exact ⟨h2, h3⟩
      refine ⟨undef, _, G, .inr ⟨?_, rfl⟩, undef_rel G, moved_setO c.core hg hn hy (fun _ _ _ _ _ h => by cases h)⟩
      rcases ho with ho | ho <;> simp [execOp, ho, hu, Instr.mapUpdate, run_underlying ht, getObj_run g2 (by simp), checkKey_run hd hk h2 hko, findKey_run (kk := kk) hk f1, setObj_run g2 (by simp)]

/-- Keys that are structs. -/
theorem sameCell_rel {x y : AVal} {u v : Value} (h : VRel G x u) (h' : VRel G y v) (hs : sameCell x y = true) (n : Nat) : Instr.sameBits (n + 1) u v = true := by
  unfold sameCell at hs
  split at hs
  · cases h; cases h'
    simp only [Bool.and_eq_true, decide_eq_true_eq, beq_iff_eq] at hs
    obtain ⟨rfl, rfl⟩ := hs
    simp [Instr.sameBits]
  · cases h; cases h'
    have : _ = _ := eq_of_beq hs
    subst this
    simp [Instr.sameBits]
  · cases h; cases h'
    have := ba_beq hs
    subst this
    simp [Instr.sameBits, ba_self]
  · cases hs
theorem sameCs_rel (n : Nat) : ∀ (xs ys : List AVal) (us vs : List Value), xs.length = us.length → ys.length = vs.length → (∀ (i : Nat) (x : AVal) (v : Value), xs[i]? = some x → us[i]? = some v → VRel G x v) → (∀ (i : Nat) (x : AVal) (v : Value), ys[i]? = some x → vs[i]? = some v → VRel G x v) → sameCs xs ys = true →
    us.length = vs.length ∧ (us.zip vs).all (fun p => Instr.sameBits (n + 1) p.1 p.2) = true
  | [], [], us, vs, h1, h2, _, _, _ => by
    have e1 : us = [] := List.eq_nil_of_length_eq_zero (by simpa using h1.symm)
    have e2 : vs = [] := List.eq_nil_of_length_eq_zero (by simpa using h2.symm)
    subst e1; subst e2; exact ⟨rfl, rfl⟩
  | x :: xs, y :: ys, [], vs, h1, _, _, _, _ => by simp at h1
  | x :: xs, y :: ys, u :: us, [], _, h2, _, _, _ => by simp at h2
  | x :: xs, y :: ys, u :: us, v :: vs, h1, h2, r1, r2, hs => by
    simp only [sameCs, Bool.and_eq_true] at hs
    have ih := sameCs_rel n xs ys us vs (by simpa using h1) (by simpa using h2) (fun i x v a b => r1 (i + 1) x v (by simpa using a) (by simpa using b)) (fun i x v a b => r2 (i + 1) x v (by simpa using a) (by simpa using b)) hs.2
    have h0 := sameCell_rel (r1 0 x u rfl rfl) (r2 0 y v rfl rfl) hs.1 n
    refine ⟨by simp [ih.1], ?_⟩
    simp only [List.zip_cons_cons, List.all_cons, h0, ih.2, Bool.and_self]
  | [], y :: ys, _, _, _, _, _, _, hs => by simp [sameCs] at hs
  | x :: xs, [], _, _, _, _, _, _, hs => by simp [sameCs] at hs
theorem sameAgg_rel {x y : AVal} {u v : Value} (h : VRel G x u) (h' : VRel G y v) (hs : sameAgg x y = true) : Instr.sameBits 10000 u v = true := by
  unfold sameAgg at hs
  split at hs
  · obtain ⟨us, rfl, ru⟩ := h.of_agg
    obtain ⟨vs, rfl, rv⟩ := h'.of_agg
    obtain ⟨h1, h2⟩ := sameCs_rel (G := G) 9998 _ _ us.toList vs.toList (by simpa using ru.len) (by simpa using rv.len) (fun i x v a b => ru.val i x v a (by simpa using b)) (fun i x v a b => rv.val i x v a (by simpa using b)) hs
    rw [show (10000 : Nat) = 9999 + 1 from rfl, Instr.sameBits]
    have h1' : us.size = vs.size := by simpa using h1
    simp only [h1', beq_self_eq_true, Bool.true_and]
    exact h2
  · cases hs

theorem checkKeyS_run {h : Nat} {t : TypeId} {e : ES} (hf : SFit P h t e) : ∀ (x : AVal) (u : Value) (em : Bool) (d : Nat), VRel G x u → xeqS e x x = some true → (Instr.checkKey em (d + h + 1) t u).run P w = .ok () w := by
  induction hf with
  | int h t k ht =>
    intro x u em d hu hx
    simp only [xeqS] at hx
    unfold cellEq at hx
    split at hx <;> try (cases hx; done)
    all_goals (cases hu; rw [Instr.checkKey]; simp only [Sem.run_bind, run_underlying ht, Result.andThen_ok]; rfl)
  | bool h t ht =>
    intro x u em d hu hx
    simp only [xeqS] at hx
    unfold cellEq at hx
    split at hx <;> try (cases hx; done)
    all_goals (cases hu; rw [Instr.checkKey]; simp only [Sem.run_bind, run_underlying ht, Result.andThen_ok]; rfl)
  | string h t ht =>
    intro x u em d hu hx
    simp only [xeqS] at hx
    unfold cellEq at hx
    split at hx <;> try (cases hx; done)
    all_goals (cases hu; rw [Instr.checkKey]; simp only [Sem.run_bind, run_underlying ht, Result.andThen_ok]; rfl)
  | struct h t fs es ht hst hlen hinf hsf ih =>
    clear hsf
    intro x u em d hu hx
    cases x <;> try (simp [xeqS] at hx; done)
    rename_i xs
    simp only [xeqS] at hx
    obtain ⟨us, rfl, ru⟩ := hu.of_agg
    rw [show d + (h + 1) + 1 = (d + h + 1) + 1 from by omega, Instr.checkKey]
    simp only [Sem.run_bind, run_underlying ht, Result.andThen_ok]
    rw [← Array.forIn_toList]
    generalize fs.toList = fl at *
    clear ht
    induction fl generalizing es with
    | nil => simp
    | cons f fl ih2 =>
      match es, hlen with
      | [], hlen => simp at hlen
      | (off, sz, agg, e) :: es, hlen =>
        obtain ⟨hname, ti, dd, k1, k2, k3, k4, k5⟩ := hinf 0 f (off, sz, agg, e) (by simp) (by simp)
        simp only at k3 k4 k5
        subst k3; subst k4; subst k5
        simp only [xeqF] at hx
        split at hx <;> try (cases hx; done)
        rename_i px py hpx hpy
        rw [hpx] at hpy; cases hpy
        obtain ⟨pu, e1, e2⟩ := partOf_rel (P := P) ru k2 k1 hpx w
        split at hx <;> try (cases hx; done)
        rename_i hb
        have := ih 0 f (f.offset, ti.size, TypeDesc.isAggB dd, e) (by simp) (by simp) px pu em d e2 hb
        simp only [List.forIn_cons, Sem.run_bind, hname, ne_eq, not_false_eq_true, if_true, Result.andThen_ok, e1, this, Sem.run_pure]
        exact ih2 es hx (by simpa using hlen) (fun i f' x' h1 h2 => hinf (i + 1) f' x' (by simpa using h1) (by simpa using h2)) (fun i f' x' h1 h2 => ih (i + 1) f' x' (by simpa using h1) (by simpa using h2))
  | array h t e n i de ex hu' hi he hsf ih =>
    clear hsf
    intro x u em d hu hx
    cases x <;> try (simp [xeqS] at hx; done)
    rename_i xs
    simp only [xeqS] at hx
    obtain ⟨us, rfl, ru⟩ := hu.of_agg
    rw [show d + (h + 1) + 1 = (d + h + 1) + 1 from by omega, Instr.checkKey]
    simp only [Sem.run_bind, run_underlying hu', Result.andThen_ok]
    simp only [Std.Legacy.Range.forIn_eq_forIn_range', Std.Legacy.Range.size, Nat.sub_zero, Nat.add_one_sub_one, Nat.div_one]
    rw [List.range_eq_range'] at hx
    generalize List.range' 0 n = is at hx ⊢
    clear hu'
    induction is with
    | nil => simp
    | cons k is ih2 =>
      simp only [List.map_cons, xeqF] at hx
      split at hx <;> try (cases hx; done)
      rename_i px py hpx hpy
      rw [hpx] at hpy; cases hpy
      obtain ⟨pu, e1, e2⟩ := partOf_rel (P := P) ru he hi hpx w
      split at hx <;> try (cases hx; done)
      rename_i hb
      have := ih px pu em d e2 hb
      have hc : P.cellsOf e = i.size := by simp [Program.cellsOf, hi]
      simp only [List.forIn_cons, Sem.run_bind, run_sizeOf w hi, hc, Result.andThen_ok, e1, this, Sem.run_pure]
      exact ih2 hx

theorem findAsk_rel {h : Nat} {t : TypeId} {e : ES} (hf : SFit P h t e) (hh : h ≤ 9999) {k : AVal} {u : Value} (hk : VRel G k u) (w : World) : ∀ (es : List (AVal × AVal)) (ents : List MapEntry) (i : Nat), es.length = ents.length → (∀ (j : Nat) (p : AVal × AVal) (e : MapEntry), es[j]? = some p → ents[j]? = some e → VRel G p.1 e.key ∧ VRel G p.2 e.val) → ∀ r, xfindS e k es i = some r →
    match r with
    | none => (Instr.findAsking t u ents i).run P w = .ok none w
    | some (j, v) => ∃ (en : MapEntry) (q : Nat), (Instr.findAsking t u ents i).run P w = .ok (some (j, en.val)) w ∧ j = i + q ∧ ents[q]? = some en ∧ VRel G v en.val ∧ Instr.sameBits 10000 en.key u = true
  | [], [], i, _, _, r, hx => by simp only [xfindS] at hx; cases hx; simp [Instr.findAsking]
  | [], _ :: _, _, hl, _, _, _ => by simp at hl
  | _ :: _, [], _, hl, _, _, _ => by simp at hl
  | p :: es, en :: ents, i, hl, hr, r, hx => by
    have h0 := hr 0 p en rfl rfl
    have eqr : ∀ b, xeqS e k p.1 = some b → (Op.equal t u en.key).run P w = .ok b w := fun b hb => by
      have := eqS_rel (w := w) hf k p.1 u en.key b (9999 - h) hk h0.1 hb
      rw [show 9999 - h + h + 1 = 10000 from by omega] at this
      exact this
    simp only [xfindS, keyEqS] at hx
    cases hq : xeqS e k p.1 with
    | none => rw [hq] at hx; cases hx
    | some b =>
      rw [hq] at hx
      have hrun := eqr b hq
      cases b
      · simp only at hx
        have ih := findAsk_rel hf hh hk w es ents (i + 1) (by simpa using hl) (fun j p e h1 h2 => hr (j + 1) p e (by simpa using h1) (by simpa using h2)) r hx
        cases r with
        | none => simp only [Instr.findAsking, Sem.run_bind, hrun, Result.andThen_ok, Bool.false_eq_true, if_false]; exact ih
        | some jv =>
          obtain ⟨j, v⟩ := jv
          obtain ⟨e', q, i1, i2, i3, i4, i5⟩ := ih
          exact ⟨e', q + 1, by simp only [Instr.findAsking, Sem.run_bind, hrun, Result.andThen_ok, Bool.false_eq_true, if_false]; exact i1, by omega, by simpa using i3, i4, i5⟩
      · by_cases hs : sameAgg p.1 k = true
        · simp only [hs, if_true] at hx
          cases hx
          exact ⟨en, 0, by simp [Instr.findAsking, hrun], rfl, rfl, h0.2, sameAgg_rel h0.1 hk hs⟩
        · simp only [hs, if_false] at hx; cases hx

theorem findKeyS_run {t : TypeId} {d : TypeDesc} (ht : P.underlying t = some d) (us : Array Value) (ents : List MapEntry) (w : World) : (Instr.findKey t (.agg us) ents).run P w = (Instr.findAsking t (.agg us) ents 0).run P w := by
  cases ents with
  | nil => simp [Instr.findKey, run_underlying ht, Instr.findNow, Instr.findAsking]
  | cons e l => simp [Instr.findKey, run_underlying ht, Instr.findNow, Instr.sameNow]

theorem keyOkS_agg {fs : List (Nat × Nat × Bool × ES)} {k : AVal} (h : keyOkS (.s fs) k = true) : ∃ xs, k = .agg xs := by
  unfold keyOkS at h
  cases k <;> first | exact ⟨_, rfl⟩ | (simp [xeqS] at h)
theorem keyOkS_eq {e : ES} {k : AVal} (h : keyOkS e k = true) : xeqS e k k = some true := by
  unfold keyOkS at h
  split at h
  · assumption
  · cases h

theorem ok_lookupS (c : At G σ w tm a) {o : Oper} {t kt et : TypeId} {d : TypeDesc} {fs : List (Nat × Nat × Bool × ES)} {h : Nat} {i : TypeInfo} {z : Value} {zero : AVal} {ok : Bool} {p q : Operand} {x y : XOpd} (ho : o.op = .lookup t p q ok) (ht : P.underlying t = some (.map kt et)) (hk : P.underlying kt = some d) (hf : SFit P h kt (.s fs)) (hh : h ≤ 9999) (hi : P.info? et = some i) (hz : i.zero = some z) (hzr : ∀ G, VRel G zero z) (hp : OFit p x) (hq : OFit q y) {r : XRes} (hx : xop (.lookupS (.s fs) zero ok x y) tm σ = some r) : OpOk P o a G σ w r := by
  have h1 := hp.rel c.rel
  have h2 := hq.rel c.rel
  simp only [xop] at hx
  split at hx <;> try (cases hx; done)
  rename_i es hes
  split at hx <;> try (cases hx; done)
  rename_i hko
  obtain ⟨ks, hks⟩ := keyOkS_agg hko
  obtain ⟨us, hus, _⟩ := (show VRel G (.agg ks) (a.eval q) from hks ▸ h2).of_agg
  have hck : ∀ em, (Instr.checkKey em 10000 kt (.agg us)).run P w = .ok () w := fun em => by
    have := checkKeyS_run (w := w) hf (y.eval tm) (.agg us) em (9999 - h) (hus ▸ h2) (keyOkS_eq hko)
    rw [show 9999 - h + h + 1 = 10000 from by omega] at this
    exact this
  have fin : ∀ (ents : List MapEntry), es.length = ents.length → (∀ (j : Nat) (p : AVal × AVal) (e : MapEntry), es[j]? = some p → ents[j]? = some e → VRel G p.1 e.key ∧ VRel G p.2 e.val) → ∃ (v : AVal) (f : Bool) (v' : Value), r = .val (if ok then .tup [v, .bool f] else v) σ ∧ VRel G v v' ∧ ∀ w' : World, (do
      let (v, f) ← match ← Instr.findKey kt (.agg us) ents with
        | some (_, v) => pure (v, true)
        | none => pure (← zeroValue et, false)
      pure (if ok then Value.tuple #[v, .bool f] else v) : Sem Value).run P w' = .ok (if ok then .tuple #[v', .bool f] else v') w' := by
    intro ents hl hr
    split at hx <;> try (cases hx; done)
    · rename_i j v hfd
      cases hx
      obtain ⟨e, q', f1, f2, f3, f4, f5⟩ := findAsk_rel hf hh (hus ▸ h2) w es ents 0 hl hr _ hfd
      refine ⟨v, true, e.val, rfl, f4, fun w' => ?_⟩
      obtain ⟨e', q'', f1', f2', f3', _⟩ := findAsk_rel hf hh (hus ▸ h2) w' es ents 0 hl hr _ hfd
      have hqq : q' = q'' := by omega
      subst hqq
      rw [f3] at f3'; cases f3'
      simp [findKeyS_run hk, f1']
    · rename_i hfd
      cases hx
      refine ⟨zero, false, z, rfl, hzr G, fun w' => ?_⟩
      have f1 := findAsk_rel hf hh (hus ▸ h2) w' es ents 0 hl hr _ hfd
      simp only at f1
      simp [findKeyS_run hk, f1, zero_run hi hz]
  have done : ∀ {v : AVal} {f : Bool} {v' : Value}, VRel G v v' → VRel G (if ok then .tup [v, .bool f] else v) (if ok then .tuple #[v', .bool f] else v') := fun {v f v'} hv => by
    cases ok
    · exact hv
    · refine VRel.mk_tup ⟨rfl, fun i y u e1 e2 => ?_⟩
      match i with
      | 0 => simp at e1 e2; subst e1; subst e2; exact hv
      | 1 => simp at e1 e2; subst e1; subst e2; exact .bool _
      | i + 2 => simp at e1
  rcases entries_rel c.core h1 hes with ⟨e1, rfl⟩ | ⟨b, ents, clock, e1, e2, e3, e4⟩
  · obtain ⟨v, f, v', rfl, hv, hrun⟩ := fin [] rfl (fun j p e h => by simp at h)
    refine OpOk.pure c.core (v' := if ok then .tuple #[v', .bool f] else v') ?_ (done hv)
    have := hrun w
    simp only [execOp, ho, Instr.lookup, Sem.run_bind, run_underlying ht, e1, hus, Result.andThen_ok, Sem.run_pure, hck] at this ⊢
    revert this
    generalize Instr.findKey kt (.agg us) [] = s
    intro this
    cases hs : s.run P w with
    | halt h w1 => rw [hs] at this; simp [Result.andThen] at this
    | ok fk w1 =>
      rw [hs] at this
      simp only [Result.andThen_ok] at this ⊢
      cases fk <;> simp_all
  · obtain ⟨v, f, v', rfl, hv, hrun⟩ := fin ents.toList (by simpa using e3) (fun j p e h1 h2 => e4 j p e h1 (by simpa using h2))
    refine OpOk.pure c.core (v' := if ok then .tuple #[v', .bool f] else v') ?_ (done hv)
    have := hrun w
    simp only [execOp, ho, Instr.lookup, Sem.run_bind, run_underlying ht, e1, hus, getObj_run e2 (by simp), Result.andThen_ok, Sem.run_pure, hck] at this ⊢
    revert this
    generalize Instr.findKey kt (.agg us) ents.toList = s
    intro this
    cases hs : s.run P w with
    | halt h w1 => rw [hs] at this; simp [Result.andThen] at this
    | ok fk w1 =>
      rw [hs] at this
      simp only [Result.andThen_ok] at this ⊢
      cases fk <;> simp_all

theorem ok_mapupdS (c : At G σ w tm a) {o : Oper} {t kt et : TypeId} {d : TypeDesc} {fs : List (Nat × Nat × Bool × ES)} {h : Nat} {p q s : Operand} {x y z : XOpd} (ho : o.op = .mapUpdate t p q s ∨ o.op = .insert t p q s) (ht : P.underlying t = some (.map kt et)) (hk : P.underlying kt = some d) (hf : SFit P h kt (.s fs)) (hh : h ≤ 9999) (hp : OFit p x) (hq : OFit q y) (hs : OFit s z) {r : XRes} (hx : xop (.mapupdS (.s fs) x y z) tm σ = some r) : OpOk P o a G σ w r := by
  have h1 := hp.rel c.rel
  have h2 := hq.rel c.rel
  have h3 := hs.rel c.rel
  simp only [xop] at hx
  split at hx <;> try (cases hx; done)
  rename_i n he
  split at hx <;> try (cases hx; done)
  rename_i es hg
  split at hx <;> try (cases hx; done)
  rename_i hko
  obtain ⟨ks, hks⟩ := keyOkS_agg hko
  obtain ⟨us, hus, _⟩ := (show VRel G (.agg ks) (a.eval q) from hks ▸ h2).of_agg
  have hck : ∀ em, (Instr.checkKey em 10000 kt (.agg us)).run P w = .ok () w := fun em => by
    have := checkKeyS_run (w := w) hf (y.eval tm) (.agg us) em (9999 - h) (hus ▸ h2) (keyOkS_eq hko)
    rw [show 9999 - h + h + 1 = 10000 from by omega] at this
    exact this
  have h2' : VRel G (y.eval tm) (.agg us) := hus ▸ h2
  rw [he] at h1
  generalize hu : a.eval p = u at h1
  cases h1 with
  | map _ b hn =>
    obtain ⟨b', ob, g1, g2, g3, _⟩ := c.core.obj n _ hg
    rw [hn] at g1; cases g1
    obtain ⟨ents, rfl, k1, k2, k9⟩ := g3
    have k2' : ∀ (j : Nat) (p : AVal × AVal) (e : MapEntry), es[j]? = some p → ents.toList[j]? = some e → VRel G p.1 e.key ∧ VRel G p.2 e.val := fun j p e h1 h2 => k2 j p e h1 (by simpa using h2)
    split at hx <;> try (cases hx; done)
    · rename_i j v hfd
      cases hx
      obtain ⟨e, q', f1, f2, f3, f4, f5⟩ := findAsk_rel hf hh h2' w es ents.toList 0 (by simpa using k1) k2' _ hfd
      have hj : j = q' := by omega
      subst hj
      have f3' : ents[j]? = some e := by simpa using f3
      have hy : OthRel G (.map (es.set j (y.eval tm, z.eval tm))) (.map (ents.modify j fun e => { e with key := .agg us, val := a.eval s }) ents.size) := by
        refine ⟨ents.modify j fun e => { e with key := .agg us, val := a.eval s }, by rw [Array.size_modify], by simp [k1], fun i p e' h4 h5 => ?_, born_modify (k := .agg us) (v := a.eval s) k9 j⟩
        by_cases hij : j = i
        · subst hij
          have hlt : j < es.length := by have := (List.getElem?_eq_some_iff.1 h4).1; simpa using this
          rw [List.getElem?_set_self hlt] at h4
          cases h4
          rw [Array.getElem?_modify, if_pos rfl, f3'] at h5
          cases h5
          exact ⟨h2', h3⟩
        · rw [List.getElem?_set_ne hij] at h4
          rw [Array.getElem?_modify, if_neg hij] at h5
          exact k2 i p e' h4 h5
      refine ⟨undef, _, G, .inr ⟨?_, rfl⟩, undef_rel G, moved_setO c.core hg hn hy (fun _ _ _ _ _ h => by cases h)⟩
      rcases ho with ho | ho <;> simp [execOp, ho, hu, hus, Instr.mapUpdate, run_underlying ht, getObj_run g2 (by simp), hck, findKeyS_run hk, f1, f3', Instr.keyThatStays, f5, setObj_run g2 (by simp)]
    · rename_i hfd
      cases hx
      have f1 := findAsk_rel hf hh h2' w es ents.toList 0 (by simpa using k1) k2' _ hfd
      simp only at f1
      have hy : OthRel G (.map (es ++ [(y.eval tm, z.eval tm)])) (.map (ents.push { key := .agg us, val := a.eval s, born := ents.size }) (ents.size + 1)) := by
        refine ⟨ents.push { key := .agg us, val := a.eval s, born := ents.size }, by rw [Array.size_push], by simp [k1], fun i p e' h4 h5 => ?_, born_push (k := .agg us) (v := a.eval s) k9⟩
        by_cases hij : i < es.length
        · rw [List.getElem?_append_left hij] at h4
          rw [Array.getElem?_push, if_neg (by omega)] at h5
          exact k2 i p e' h4 h5
        · have hi : i = es.length := by have := (List.getElem?_eq_some_iff.1 h4).1; simp at this; omega
          subst hi
          rw [List.getElem?_append_right (Nat.le_refl _), Nat.sub_self] at h4
          rw [Array.getElem?_push, if_pos (by omega)] at h5
          cases h4; cases h5
          exact ⟨h2', h3⟩
      refine ⟨undef, _, G, .inr ⟨?_, rfl⟩, undef_rel G, moved_setO c.core hg hn hy (fun _ _ _ _ _ h => by cases h)⟩
      rcases ho with ho | ho <;> simp [execOp, ho, hu, hus, Instr.mapUpdate, run_underlying ht, getObj_run g2 (by simp), hck, findKeyS_run hk, f1, setObj_run g2 (by simp)]

/-- Loops over maps, as long as at most one entry is left. -/
theorem ok_mkiter (c : At G σ w tm a) {o : Oper} {t kt et : TypeId} {p : Operand} {x : XOpd} (ho : o.op = .range t p) (ht : P.underlying t = some (.map kt et)) (hp : OFit p x) {r : XRes} (hx : xop (.mkiter x) tm σ = some r) (hn : News G σ (r.nx σ)) : OpOk P o a G σ w r := by
  have h1 := hp.rel c.rel
  simp only [xop] at hx
  split at hx <;> try (cases hx; done)
  · rename_i he
    cases hx
    rw [he] at h1
    generalize hu : a.eval p = u at h1
    cases h1
    obtain ⟨G', hm, hr⟩ := moved_newO (x := .iter none 0 []) (ob := .mapIter none 0 #[] 0) c.core (hn _ (Nat.le_refl _) (Nat.lt_succ_self _)) rfl
    refine ⟨.pointer (some ⟨w.heap.size, 0, none⟩), w.alloc (.mapIter none 0 #[] 0), G', .inl ?_, .ptr _ _ _ hr, hm⟩
    simp [execOp, ho, hu, Instr.range, run_underlying ht]
  · rename_i n he
    split at hx <;> try (cases hx; done)
    rename_i es hg
    cases hx
    rw [he] at h1
    generalize hu : a.eval p = u at h1
    cases h1 with
    | map _ b hb =>
      obtain ⟨b', ob, g1, g2, g3, _⟩ := c.core.obj n _ hg
      rw [hb] at g1; cases g1
      obtain ⟨ents, rfl, k1, k2, k9⟩ := g3
      obtain ⟨G', hm, hr⟩ := moved_newO (x := .iter (some n) es.length []) (ob := .mapIter (some b) ents.size #[] ents.size) c.core (hn _ (Nat.le_refl _) (Nat.lt_succ_self _)) ⟨b, by rw [k1], hb⟩
      refine ⟨.pointer (some ⟨w.heap.size, 0, none⟩), w.alloc (.mapIter (some b) ents.size #[] ents.size), G', .inl ?_, .ptr _ _ _ hr, hm⟩
      simp [execOp, ho, hu, Instr.range, run_underlying ht, getObj_run g2 (by simp)]

theorem left_filter {ents : Array MapEntry} (h : ∀ (i : Nat) (e : MapEntry), ents[i]? = some e → e.born = i) (seen : List Nat) :
    (ents.filter fun e => !seen.toArray.contains e.born).toList = (leftIdx ents.size seen).map fun i => ents[i]?.getD default := by
  have e1 : ents.toList = (List.range ents.size).map fun i => ents[i]?.getD default := by
    apply List.ext_getElem?
    intro i
    by_cases hi : i < ents.size
    · simp [hi]
    · simp [hi]
  rw [Array.toList_filter, e1, List.filter_map]
  unfold leftIdx
  congr 1
  apply List.filter_congr
  intro i hi
  have hi' : i < ents.size := by simpa using hi
  have hb := h i ents[i] (by simp [hi'])
  simp only [Function.comp, Array.getElem?_eq_getElem hi', Option.getD_some, hb]
  congr 1
  simp only [List.contains_toArray, List.contains_eq_any_beq]
  congr 1 <;> first | rfl | (funext x; rw [Bool.eq_iff_iff]; simp [Nat.beq_eq])

theorem next_ok {r b since : Nat} {seen : List Nat} {ents : Array MapEntry} (hr : w.heap[r]? = some (.mapIter (some b) since seen.toArray since)) (hb : w.heap[b]? = some (.map ents ents.size)) (hs : ents.size = since) (h : ∀ (i : Nat) (e : MapEntry), ents[i]? = some e → e.born = i) (ty : TypeId) :
    (leftIdx ents.size seen = [] → (Instr.next (.pointer (some ⟨r, 0, none⟩)) false ty).run P w = .ok (.tuple #[.bool false]) w) ∧
    ∀ i, leftIdx ents.size seen = [i] → ∃ e, ents[i]? = some e ∧ e.born = i ∧ (Instr.next (.pointer (some ⟨r, 0, none⟩)) false ty).run P w = .ok (.tuple #[.bool true, e.key, e.val]) { w with heap := w.heap.setIfInBounds r (.mapIter (some b) since (seen ++ [i]).toArray since) } := by
  have hold : ∀ x ∈ ents.toList, x.born < since := fun x hx => by
    obtain ⟨i, hi⟩ := List.mem_iff_getElem?.1 hx
    have hi' : ents[i]? = some x := by simpa using hi
    rw [h i x hi', ← hs]
    exact (Array.getElem?_eq_some_iff.1 hi').1
  have hf := left_filter h seen
  have key : (Instr.next (.pointer (some ⟨r, 0, none⟩)) false ty).run P w = _ := rfl
  simp only [Instr.next, Sem.run_bind, getObj_run hr (by simp), getObj_run hb (by simp), Result.andThen_ok, next_test_false seen.toArray ents since since hold (Nat.le_refl _), Bool.false_eq_true, if_false] at key ⊢
  clear key
  have hmem : ∀ x ∈ (Array.filter (fun e => !seen.toArray.contains e.born) ents).toList, x.born < since := fun x hx => hold x (by simp at hx ⊢; exact hx.1)
  generalize hL : Array.filter (fun e => !seen.toArray.contains e.born) ents = L at hmem hf ⊢
  have e1 : L.filter (fun x => decide (x.born < since)) = L := Array.filter_eq_self.2 (fun x hx => by simpa using hmem x (by simpa using hx))
  have e2 : L.filter (fun x => decide (x.born ≥ since)) = #[] := by
    rw [Array.filter_eq_empty_iff]
    intro x hx
    have := hmem x (by simpa using hx)
    simp
    omega
  simp only [e1, e2, Array.append_empty]
  constructor
  · intro h0
    rw [h0] at hf
    have : L = #[] := by apply Array.toList_inj.1; simpa using hf
    subst this
    simp [choose, Sem.run, Question.forced]
  · intro i h1
    rw [h1] at hf
    have hi : i < ents.size := by
      have : i ∈ leftIdx ents.size seen := by rw [h1]; simp
      unfold leftIdx at this
      have := (List.mem_filter.1 this).1
      simpa using this
    have : L = #[ents[i]] := by apply Array.toList_inj.1; simpa [hi] using hf
    subst this
    have hbn := h i ents[i] (by simp [hi])
    refine ⟨ents[i], by simp [hi], hbn, ?_⟩
    simp [choose, Sem.run, Question.forced, setObj, hr, hbn, hs, Result.andThen]

theorem ok_nextM (c : At G σ w tm a) {o : Oper} {p : Operand} {x : XOpd} (ho : o.op = .next p false) (hp : OFit p x) {r : XRes} (hx : xop (.nextM x) tm σ = some r) : OpOk P o a G σ w r := by
  have h1 := hp.rel c.rel
  simp only [xop] at hx
  split at hx <;> try (cases hx; done)
  rename_i rn he
  rw [he] at h1
  generalize hu : a.eval p = u at h1
  cases h1 with
  | ptr _ _ b hb =>
    split at hx <;> try (cases hx; done)
    · rename_i m1 m2 hg
      cases hx
      obtain ⟨b', ob, g1, g2, g3, _⟩ := c.core.obj rn _ hg
      rw [hb] at g1; cases g1
      have g3' : ob = .mapIter none 0 #[] 0 := g3
      subst g3'
      refine OpOk.pure c.core (v' := .tuple #[.bool false]) ?_ (VRel.mk_tup (ARel.single (.bool _)))
      simp [execOp, ho, hu, Instr.next, getObj_run g2 (by simp)]
    · rename_i m since seen hg
      split at hx <;> try (cases hx; done)
      rename_i es hgm
      split at hx <;> try (cases hx; done)
      rename_i hlen
      obtain ⟨b', ob, g1, g2, g3, _⟩ := c.core.obj rn _ hg
      rw [hb] at g1; cases g1
      obtain ⟨bm, rfl, hbm⟩ := g3
      obtain ⟨b'', ob2, q1, q2, q3, _⟩ := c.core.obj m _ hgm
      rw [hbm] at q1; cases q1
      obtain ⟨ents, rfl, k1, k2, k9⟩ := q3
      obtain ⟨n1, n2⟩ := next_ok (P := P) g2 q2 (by omega) k9 o.type
      split at hx <;> try (cases hx; done)
      · rename_i hl
        cases hx
        refine OpOk.pure c.core (v' := .tuple #[.bool false]) ?_ (VRel.mk_tup (ARel.single (.bool _)))
        simp [execOp, ho, hu, n1 (by rw [← k1]; exact hl)]
      · rename_i i hl
        split at hx <;> try (cases hx; done)
        rename_i pr hpr
        cases hx
        obtain ⟨e, t1, t2, t3⟩ := n2 i (by rw [← k1]; exact hl)
        obtain ⟨v1, v2⟩ := k2 i pr e hpr t1
        refine ⟨.tuple #[.bool true, e.key, e.val], _, G, .inl ?_, ?_, moved_setO c.core hg hb (y := .iter (some m) since (seen ++ [i])) (ob := .mapIter (some bm) since (seen ++ [i]).toArray since) ⟨bm, rfl, hbm⟩ (fun _ _ _ _ _ h => by cases h)⟩
        · simp [execOp, ho, hu, t3]
        · refine VRel.mk_tup ⟨rfl, fun j y u e1 e2 => ?_⟩
          match j with
          | 0 => simp at e1 e2; subst e1; subst e2; exact .bool _
          | 1 => simp at e1 e2; subst e1; subst e2; exact v1
          | 2 => simp at e1 e2; subst e1; subst e2; exact v2
          | j + 3 => simp at e1

theorem find_at {ents : Array MapEntry} (h : ∀ (i : Nat) (e : MapEntry), ents[i]? = some e → e.born = i) {i : Nat} {e : MapEntry} (he : ents[i]? = some e) : ents.find? (·.born == i) = some e := by
  cases hf : ents.find? (·.born == i) with
  | none =>
    have := Array.find?_eq_none.1 hf e (Array.mem_of_getElem? he)
    simp [h i e he] at this
  | some e' =>
    have h1 := Array.find?_some hf
    have h2 := Array.mem_of_find?_eq_some hf
    obtain ⟨j, hj⟩ := Array.mem_iff_getElem?.1 h2
    have h3 := h j e' hj
    have h4 : e'.born = i := by simpa using h1
    rw [h3] at h4; subst h4
    rw [he] at hj; exact hj.symm

theorem ok_entryM (c : At G σ w tm a) {o : Oper} {p : Operand} {x : XOpd} (ho : o.op = .entry p) (hp : OFit p x) {r : XRes} (hx : xop (.entryM x) tm σ = some r) : OpOk P o a G σ w r := by
  have h1 := hp.rel c.rel
  simp only [xop] at hx
  split at hx <;> try (cases hx; done)
  rename_i rn he
  rw [he] at h1
  generalize hu : a.eval p = u at h1
  cases h1 with
  | ptr _ _ b hb =>
    split at hx <;> try (cases hx; done)
    rename_i m since seen hg
    split at hx <;> try (cases hx; done)
    rename_i es i hgm hlast
    split at hx <;> try (cases hx; done)
    rename_i hlen
    split at hx <;> try (cases hx; done)
    rename_i pr hpr
    cases hx
    obtain ⟨b', ob, g1, g2, g3, _⟩ := c.core.obj rn _ hg
    rw [hb] at g1; cases g1
    obtain ⟨bm, rfl, hbm⟩ := g3
    obtain ⟨b'', ob2, q1, q2, q3, _⟩ := c.core.obj m _ hgm
    rw [hbm] at q1; cases q1
    obtain ⟨ents, rfl, k1, k2, k9⟩ := q3
    have hi : i < ents.size := by rw [← k1]; exact (List.getElem?_eq_some_iff.1 hpr).1
    obtain ⟨v1, v2⟩ := k2 i pr ents[i] hpr (by simp [hi])
    have hfd := find_at k9 (show ents[i]? = some ents[i] by simp [hi])
    have hbk : seen.toArray.back? = some i := by rw [← hlast]; simp
    have hse : ents.size = since := by omega
    refine OpOk.pure c.core (v' := .tuple #[ents[i].key, ents[i].val]) ?_ ?_
    · simp [execOp, ho, hu, Instr.entry, getObj_run g2 (by simp), getObj_run q2 (by simp), hlast, hse, hfd]
    · refine VRel.mk_tup ⟨rfl, fun j y u e1 e2 => ?_⟩
      match j with
      | 0 => simp at e1 e2; subst e1; subst e2; exact v1
      | 1 => simp at e1 e2; subst e1; subst e2; exact v2
      | j + 2 => simp at e1

theorem ok_lenM (c : At G σ w tm a) {o : Oper} {p : Operand} {x : XOpd} {t kt et : TypeId} {cl : Call} (ho : o.op = .call cl) (hc : cl.callee = .builtin .len) (ha : cl.args = #[p]) (hat : cl.argTypes = #[t]) (ht : P.underlying t = some (.map kt et)) (hp : OFit p x) {r : XRes} (hx : xop (.lenM x) tm σ = some r) : OpOk P o a G σ w r := by
  have h1 := hp.rel c.rel
  simp only [xop] at hx
  split at hx <;> try (cases hx; done)
  rename_i es hes
  cases hx
  obtain ⟨cs, hcs⟩ := exec_builtin1 (P := P) (a := a) ho hc ha hat w
  rcases entries_rel c.core h1 hes with ⟨e1, rfl⟩ | ⟨b, ents, clock, e1, e2, e3, e4⟩
  · refine OpOk.pure c.core (v' := .int .i64 0) ?_ (.int _ _)
    rw [hcs]
    simp [builtin, e1, Builtin.len_, run_underlying ht, goInt]
  · refine OpOk.pure c.core (v' := .int .i64 es.length) ?_ (.int _ _)
    rw [hcs]
    simp [builtin, e1, Builtin.len_, run_underlying ht, goInt, getObj_run e2 (by simp), e3]

theorem ok_isnil (c : At G σ w tm a) {o : Oper} {op : BinOp} {neg : Bool} {p : Operand} {x : XOpd} {t t' : TypeId} {ms : Array (String × TypeId)} (ho : o.op = .binOp op t p (.const .nilIface) t') (hop : (op = .eql ∧ neg = false) ∨ (op = .neq ∧ neg = true)) (ht : P.underlying t = some (.interface ms)) (hp : OFit p x) {r : XRes} (hx : xop (.isnil neg x) tm σ = some r) : OpOk P o a G σ w r := by
  have h1 := hp.rel c.rel
  simp only [xop] at hx
  generalize hu : a.eval p = u at h1
  have e : ∀ {u : Value} {b : Bool}, (match u with | .nilIface => some true | .iface _ _ => some false | _ => none) = some b → (Op.equal t u .nilIface).run P w = .ok b w := fun {u b} hb => by
    unfold Op.equal Op.maxDepth
    rw [show (10000 : Nat) = 9999 + 1 from rfl, Op.equalIn]
    simp only [Sem.run_bind, run_underlying ht, Result.andThen_ok]
    cases u <;> simp at hb <;> (subst hb; rfl)
  have hcst : a.eval (.const .nilIface) = .nilIface := rfl
  split at hx <;> try (cases hx; done)
  · rename_i e1
    rw [e1] at h1
    cases h1
    cases hx
    refine OpOk.pure c.core (v' := .bool (!neg)) ?_ (.bool _)
    have q := e (u := .nilIface) (b := true) rfl
    rcases hop with ⟨rfl, rfl⟩ | ⟨rfl, rfl⟩ <;> simp [execOp, ho, hu, eqGuard, binOp, q, hcst]
  · rename_i e1
    rw [e1] at h1
    cases h1 with
    | errv tt xx =>
      cases hx
      refine OpOk.pure c.core (v' := .bool neg) ?_ (.bool _)
      have q := e (u := .iface tt xx) (b := false) rfl
      rcases hop with ⟨rfl, rfl⟩ | ⟨rfl, rfl⟩ <;> simp [execOp, ho, hu, eqGuard, binOp, q, hcst]

theorem ok_isnilS (c : At G σ w tm a) {o : Oper} {op : BinOp} {neg : Bool} {p : Operand} {x : XOpd} {t t' e' : TypeId} {k1 k2 : Nat} (ho : o.op = .binOp op t p (.const (.slice none k1 k2)) t') (hop : (op = .eql ∧ neg = false) ∨ (op = .neq ∧ neg = true)) (ht : P.underlying t = some (.slice e')) (hp : OFit p x) {r : XRes} (hx : xop (.isnilS neg x) tm σ = some r) : OpOk P o a G σ w r := by
  have h1 := (hp.rel c.rel).down
  simp only [xop] at hx
  generalize hu : a.eval p = u at h1
  have e : ∀ {A : Option Addr} {n m : Nat}, (Op.equal t (.slice A n m) (.slice none k1 k2)).run P w = .ok A.isNone w := fun {A n m} => by
    unfold Op.equal Op.maxDepth
    rw [show (10000 : Nat) = 9999 + 1 from rfl, Op.equalIn]
    simp only [Sem.run_bind, run_underlying ht, Result.andThen_ok]
    cases A <;> rfl
  have hcst : a.eval (.const (.slice none k1 k2)) = .slice none k1 k2 := rfl
  have hg : ∀ (A : Option Addr) (n m : Nat), (eqGuard op t p (.const (.slice none k1 k2)) (.slice A n m) (.slice none k1 k2)).run P w = .ok () w := fun A n m => eqGuard_val (by simp) (by simp) w
  have fin : ∀ (A : Option Addr) (n m : Nat), u = .slice A n m → r = .val (.bool (A.isNone != neg)) σ → OpOk P o a G σ w r := by
    rintro A n m rfl rfl
    refine OpOk.pure c.core (v' := .bool (A.isNone != neg)) ?_ (.bool _)
    rcases hop with ⟨rfl, rfl⟩ | ⟨rfl, rfl⟩ <;> simp [execOp, ho, hu, hg, binOp, e, hcst]
  split at hx <;> try (cases hx; done)
  · rename_i e1
    rw [e1] at h1
    cases h1; cases hx
    exact fin none _ _ rfl (by cases neg <;> rfl)
  · rename_i e1
    rw [e1] at h1
    cases hx
    cases h1 with
    | list0 => exact fin (some _) _ _ rfl (by cases neg <;> rfl)
    | list => exact fin (some _) _ _ rfl (by cases neg <;> rfl)
  · rename_i e1
    rw [e1] at h1
    cases hx
    cases h1 with
    | mlist => exact fin (some _) _ _ rfl (by cases neg <;> rfl)
end
end Go.Proofs.Ytgijgcmcpgepaaa.Eng
