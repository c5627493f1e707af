/-
  ENGINE, P: operations fit: maps, interfaces that are nil or not.
-/
import Derived.Test.YtenlllgjfbifbaaGreatEngH
namespace Go.Proofs.YtenlllgjfbifbaaGreat.Eng
set_option linter.unusedSimpArgs false
set_option linter.unusedVariables false
section
variable {P : Program} {G : Ghost} {σ : Store} {w : World} {tm : List AVal} {a : Act}

theorem moved_newO (h : Core G σ.get w) (hf : Fresh G σ.get σ.next) {x : OObj} {ob : Obj} (hr : OthRel G x ob) :
    ∃ G', Moved G σ w G' (σ.new (.oth x)) (w.alloc ob) ∧ G'.ρ σ.next = some w.heap.size := by
  obtain ⟨h1, h2, h3⟩ := core_newO h hf hr
  refine ⟨G.withRho σ.next w.heap.size, ⟨by rw [Store.get_new]; exact h1, by rw [Store.get_new]; exact h2, Nat.le_succ _, fun m hm hfr => ⟨?_, fun _ => rfl, ?_⟩⟩, h3⟩
  · have hne : m ≠ σ.next := by simp [Store.new] at hm; omega
    simp [Ghost.withRho, hne]
  · have hne : σ.next ≠ m := by simp [Store.new] at hm; omega
    rw [Store.get_new, Mem.put_ne _ hne]; exact hfr
theorem moved_setO (h : Core G σ.get w) {n b : Nat} {x : OObj} (hg : σ.get n = some (.oth x)) (hb : G.ρ n = some b) {y : OObj} {ob : Obj} (hy : OthRel G y ob) (hk : ∀ st tm ps a b, x = .loop st tm ps a b → ∃ st' tm' ps' a' b', y = .loop st' tm' ps' a' b') :
    Moved G σ w G (σ.put n (.oth y)) { w with heap := w.heap.setIfInBounds b ob } := by
  obtain ⟨h1, h2⟩ := core_setO h hg hb hy hk
  refine ⟨by rw [Store.get_put]; exact h1, by rw [Store.get_put]; exact h2, Nat.le_refl _, fun m hm hfr => ⟨rfl, fun _ => rfl, ?_⟩⟩
  have hne : n ≠ m := by rintro rfl; rw [hfr] at hg; cases hg
  rw [Store.get_put, Mem.put_ne _ hne]; exact hfr

theorem ba_beq {a b : ByteArray} (h : (a == b) = true) : a = b := by
  cases a with | mk d => cases b with | mk d' =>
  have : (d == d') = true := h
  rw [eq_of_beq this]
theorem ba_self (a : ByteArray) : (a == a) = true := by
  cases a with | mk d => exact (beq_self_eq_true d : (d == d) = true)
/-- The kinds of keys. -/
inductive KFit : Nat → TypeDesc → Prop
  | int (k : IntKind) : KFit 0 (.int k)
  | bool : KFit 1 .bool
  | str : KFit 2 .string

theorem sameNow_rel {kk : Nat} {d : TypeDesc} (hd : KFit kk d) {k k' : AVal} {u u' : Value} (h : VRel G k u) (h' : VRel G k' u') {b : Bool} (hk : keyEq kk k k' = some b) :
    Instr.sameNow d u u' = some b ∧ (b = true → Instr.sameBits 10000 u' u = true) := by
  unfold keyEq at hk
  split at hk <;> try (cases hk; done)
  all_goals
    split at hk <;> try (cases hk; done)
    rename_i hc
    cases hk
    cases h; cases h'
  · obtain ⟨rfl, rfl⟩ := hc
    cases hd
    refine ⟨by simp [Instr.sameNow], fun hb => ?_⟩
    have : _ = _ := eq_of_beq hb
    subst this
    simp [Instr.sameBits]
  · subst hc
    cases hd
    refine ⟨rfl, fun hb => ?_⟩
    have : _ = _ := eq_of_beq hb
    subst this
    simp [Instr.sameBits]
  · subst hc
    cases hd
    refine ⟨rfl, fun hb => ?_⟩
    have := ba_beq hb
    subst this
    simp [Instr.sameBits, ba_self]

theorem findNow_rel {kk : Nat} {d : TypeDesc} (hd : KFit kk d) {k : AVal} {u : Value} (h : VRel G k u) : ∀ (es : List (AVal × AVal)) (ents : List MapEntry) (i : Nat), es.length = ents.length → (∀ (j : Nat) (p : AVal × AVal) (e : MapEntry), es[j]? = some p → ents[j]? = some e → VRel G p.1 e.key ∧ VRel G p.2 e.val) → ∀ r, xfind kk k es i = some r →
    match r with
    | none => Instr.findNow d u ents i = some none
    | some (j, v) => ∃ (e : MapEntry) (q : Nat), Instr.findNow d u ents i = some (some (j, e.val)) ∧ j = i + q ∧ ents[q]? = some e ∧ VRel G v e.val ∧ Instr.sameBits 10000 e.key u = true
  | [], [], i, _, _, r, hx => by simp only [xfind] at hx; cases hx; rfl
  | [], _ :: _, _, hl, _, _, _ => by simp at hl
  | _ :: _, [], _, hl, _, _, _ => by simp at hl
  | p :: es, e :: ents, i, hl, hr, r, hx => by
    have h0 := hr 0 p e rfl rfl
    simp only [xfind] at hx
    split at hx <;> try (cases hx; done)
    · rename_i hk
      cases hx
      obtain ⟨s1, s2⟩ := sameNow_rel hd h h0.1 hk
      exact ⟨e, 0, by simp [Instr.findNow, s1], rfl, rfl, h0.2, s2 rfl⟩
    · rename_i hk
      obtain ⟨s1, _⟩ := sameNow_rel hd h h0.1 hk
      have ih := findNow_rel hd h es ents (i + 1) (by simpa using hl) (fun j p e h1 h2 => hr (j + 1) p e (by simpa using h1) (by simpa using h2)) r hx
      cases r with
      | none => simp only [Instr.findNow, s1]; exact ih
      | some jv =>
        obtain ⟨j, v⟩ := jv
        obtain ⟨e', q, i1, i2, i3, i4, i5⟩ := ih
        exact ⟨e', q + 1, by simp only [Instr.findNow, s1]; exact i1, by omega, by simpa using i3, i4, i5⟩

theorem checkKey_run {kk : Nat} {t : TypeId} {d : TypeDesc} (hd : KFit kk d) (ht : P.underlying t = some d) {k : AVal} {u : Value} (h : VRel G k u) (hk : keyOk kk k = true) (b : Bool) (w : World) : (Instr.checkKey b 10000 t u).run P w = .ok () w := by
  unfold keyOk at hk
  split at hk
  · cases hd; cases h
    rw [show (10000 : Nat) = 9999 + 1 from rfl, Instr.checkKey]
    simp only [Sem.run_bind, run_underlying ht, Result.andThen_ok]; rfl
  · cases hd; cases h
    rw [show (10000 : Nat) = 9999 + 1 from rfl, Instr.checkKey]
    simp only [Sem.run_bind, run_underlying ht, Result.andThen_ok]; rfl
  · cases hd; cases h
    rw [show (10000 : Nat) = 9999 + 1 from rfl, Instr.checkKey]
    simp only [Sem.run_bind, run_underlying ht, Result.andThen_ok]; rfl
  · cases hk
theorem findKey_run {kk : Nat} {t : TypeId} {d : TypeDesc} (ht : P.underlying t = some d) {u : Value} {ents : List MapEntry} {r : Option (Nat × Value)} (h : Instr.findNow d u ents 0 = some r) (w : World) : (Instr.findKey t u ents).run P w = .ok r w := by
  simp [Instr.findKey, run_underlying ht, h]

theorem entries_rel (c : Core G σ.get w) {x : AVal} {v : Value} (h : VRel G x v) {es : List (AVal × AVal)} (hx : xentries σ x = some es) :
    (v = .map none ∧ es = []) ∨ ∃ b ents clock, v = .map (some b) ∧ w.heap[b]? = some (.map ents clock) ∧ es.length = ents.size ∧ ∀ (i : Nat) (p : AVal × AVal) (e : MapEntry), es[i]? = some p → ents[i]? = some e → VRel G p.1 e.key ∧ VRel G p.2 e.val := by
  unfold xentries at hx
  split at hx
  · cases hx; cases h; exact .inl ⟨rfl, rfl⟩
  · split at hx <;> try (cases hx; done)
    rename_i n _ es' hg
    cases hx
    cases h with
    | map _ b hn =>
      obtain ⟨b', ob, h1, h2, h3, _⟩ := c.obj n _ hg
      rw [hn] at h1; cases h1
      obtain ⟨ents, clock, rfl, k1, k2⟩ := h3
      exact .inr ⟨b, ents, clock, rfl, h2, k1, k2⟩
  · cases hx

theorem getObj_run {b : Nat} {o : Obj} (h : w.heap[b]? = some o) (hc : ∀ c t f, o ≠ .cells c t f) : (getObj b).run P w = .ok o w := by
  cases o <;> first | (simp only [getObj, Sem.run, h]; done) | exact absurd rfl (hc _ _ _)
theorem setObj_run {b : Nat} {o : Obj} (h : w.heap[b]? = some o) (hc : ∀ c t f, o ≠ .cells c t f) (o' : Obj) : (setObj b o').run P w = .ok () { w with heap := w.heap.setIfInBounds b o' } := by
  cases o <;> first | (simp only [setObj, Sem.run, h]; done) | exact absurd rfl (hc _ _ _)

theorem ok_mkmap (c : At G σ w tm a) {o : Oper} {t : TypeId} (ho : o.op = .makeMap t none) {r : XRes} (hx : xop .mkmap tm σ = some r) (hn : News G σ (r.nx σ)) : OpOk P o a G σ w r := by
  simp only [xop] at hx; cases hx
  obtain ⟨G', hm, hr⟩ := moved_newO (x := .map []) (ob := .map #[] 0) c.core (hn _ (Nat.le_refl _) (Nat.lt_succ_self _)) ⟨#[], 0, rfl, rfl, fun i p e h1 h2 => by simp at h1⟩
  refine ⟨.map (some w.heap.size), w.alloc (.map #[] 0), G', .inl ?_, .map _ _ hr, hm⟩
  simp [execOp, ho, Instr.makeMap]

theorem ok_lookup (c : At G σ w tm a) {o : Oper} {t kt et : TypeId} {d : TypeDesc} {kk : Nat} {i : TypeInfo} {z : Value} {zero : AVal} {ok : Bool} {p q : Operand} {x y : XOpd} (ho : o.op = .lookup t p q ok) (ht : P.underlying t = some (.map kt et)) (hk : P.underlying kt = some d) (hd : KFit kk d) (hi : P.info? et = some i) (hz : i.zero = some z) (hzr : ∀ G, VRel G zero z) (hp : OFit p x) (hq : OFit q y) {r : XRes} (hx : xop (.lookup kk zero ok x y) tm σ = some r) : OpOk P o a G σ w r := by
  have h1 := hp.rel c.rel
  have h2 := hq.rel c.rel
  simp only [xop] at hx
  split at hx <;> try (cases hx; done)
  rename_i es hes
  split at hx <;> try (cases hx; done)
  rename_i hko
  have fin : ∀ (ents : List MapEntry), es.length = ents.length → (∀ (j : Nat) (p : AVal × AVal) (e : MapEntry), es[j]? = some p → ents[j]? = some e → VRel G p.1 e.key ∧ VRel G p.2 e.val) → ∃ (v : AVal) (f : Bool) (v' : Value), r = .val (if ok then .tup [v, .bool f] else v) σ ∧ VRel G v v' ∧ ∀ w' : World, (do
      let (v, f) ← match ← Instr.findKey kt (a.eval q) ents with
        | some (_, v) => pure (v, true)
        | none => pure (← zeroValue et, false)
      pure (if ok then Value.tuple #[v, .bool f] else v) : Sem Value).run P w' = .ok (if ok then .tuple #[v', .bool f] else v') w' := by
    intro ents hl hr
    split at hx <;> try (cases hx; done)
    · rename_i j v hf
      cases hx
      obtain ⟨e, q', f1, f2, f3, f4, f5⟩ := findNow_rel hd h2 es ents 0 hl hr _ hf
      refine ⟨v, true, e.val, rfl, f4, fun w' => ?_⟩
      simp [findKey_run (kk := kk) hk f1]
    · rename_i hf
      cases hx
      have f1 := findNow_rel hd h2 es ents 0 hl hr _ hf
      refine ⟨zero, false, z, rfl, hzr G, fun w' => ?_⟩
      simp [findKey_run (kk := kk) hk f1, zero_run hi hz]
  have done : ∀ {v : AVal} {f : Bool} {v' : Value}, VRel G v v' → VRel G (if ok then .tup [v, .bool f] else v) (if ok then .tuple #[v', .bool f] else v') := fun {v f v'} hv => by
    cases ok
    · exact hv
    · refine VRel.mk_tup ⟨rfl, fun i y u e1 e2 => ?_⟩
      match i with
      | 0 => simp at e1 e2; subst e1; subst e2; exact hv
      | 1 => simp at e1 e2; subst e1; subst e2; exact .bool _
      | i + 2 => simp at e1
  rcases entries_rel c.core h1 hes with ⟨e1, rfl⟩ | ⟨b, ents, clock, e1, e2, e3, e4⟩
  · obtain ⟨v, f, v', rfl, hv, hrun⟩ := fin [] rfl (fun j p e h => by simp at h)
    refine OpOk.pure c.core (v' := if ok then .tuple #[v', .bool f] else v') ?_ (done hv)
    have := hrun w
    simp only [execOp, ho, Instr.lookup, Sem.run_bind, run_underlying ht, e1, Result.andThen_ok, Sem.run_pure, checkKey_run hd hk h2 hko] at this ⊢
    revert this
    generalize Instr.findKey kt (a.eval q) [] = s
    intro this
    cases hs : s.run P w with
    | halt h w1 => rw [hs] at this; simp [Result.andThen] at this
    | ok fk w1 =>
      rw [hs] at this
      simp only [Result.andThen_ok] at this ⊢
      cases fk <;> simp_all
  · obtain ⟨v, f, v', rfl, hv, hrun⟩ := fin ents.toList (by simpa using e3) (fun j p e h1 h2 => e4 j p e h1 (by simpa using h2))
    refine OpOk.pure c.core (v' := if ok then .tuple #[v', .bool f] else v') ?_ (done hv)
    have := hrun w
    simp only [execOp, ho, Instr.lookup, Sem.run_bind, run_underlying ht, e1, getObj_run e2 (by simp), Result.andThen_ok, Sem.run_pure, checkKey_run hd hk h2 hko] at this ⊢
    revert this
    generalize Instr.findKey kt (a.eval q) ents.toList = s
    intro this
    cases hs : s.run P w with
    | halt h w1 => rw [hs] at this; simp [Result.andThen] at this
    | ok fk w1 =>
      rw [hs] at this
      simp only [Result.andThen_ok] at this ⊢
      cases fk <;> simp_all

theorem ok_mapupd (c : At G σ w tm a) {o : Oper} {t kt et : TypeId} {d : TypeDesc} {kk : Nat} {p q s : Operand} {x y z : XOpd} (ho : o.op = .mapUpdate t p q s ∨ o.op = .insert t p q s) (ht : P.underlying t = some (.map kt et)) (hk : P.underlying kt = some d) (hd : KFit kk d) (hp : OFit p x) (hq : OFit q y) (hs : OFit s z) {r : XRes} (hx : xop (.mapupd kk x y z) tm σ = some r) : OpOk P o a G σ w r := by
  have h1 := hp.rel c.rel
  have h2 := hq.rel c.rel
  have h3 := hs.rel c.rel
  simp only [xop] at hx
  split at hx <;> try (cases hx; done)
  rename_i n he
  split at hx <;> try (cases hx; done)
  rename_i es hg
  split at hx <;> try (cases hx; done)
  rename_i hko
  rw [he] at h1
  generalize hu : a.eval p = u at h1
  cases h1 with
  | map _ b hn =>
    obtain ⟨b', ob, g1, g2, g3, _⟩ := c.core.obj n _ hg
    rw [hn] at g1; cases g1
    obtain ⟨ents, clock, rfl, k1, k2⟩ := g3
    have k2' : ∀ (j : Nat) (p : AVal × AVal) (e : MapEntry), es[j]? = some p → ents.toList[j]? = some e → VRel G p.1 e.key ∧ VRel G p.2 e.val := fun j p e h1 h2 => k2 j p e h1 (by simpa using h2)
    split at hx <;> try (cases hx; done)
    · rename_i j v hf
      cases hx
      obtain ⟨e, q', f1, f2, f3, f4, f5⟩ := findNow_rel hd h2 es ents.toList 0 (by simpa using k1) k2' _ hf
      have hj : j = q' := by omega
      subst hj
      have f3' : ents[j]? = some e := by simpa using f3
      have hy : OthRel G (.map (es.set j (y.eval tm, z.eval tm))) (.map (ents.modify j fun e => { e with key := a.eval q, val := a.eval s }) clock) := by
        refine ⟨_, _, rfl, by simp [k1], fun i p e' h4 h5 => ?_⟩
        by_cases hij : j = i
        · subst hij
          have hlt : j < es.length := by have := (List.getElem?_eq_some_iff.1 h4).1; simpa using this
          rw [List.getElem?_set_self hlt] at h4
          cases h4
          rw [Array.getElem?_modify, if_pos rfl, f3'] at h5
          cases h5
          exact ⟨h2, h3⟩
        · rw [List.getElem?_set_ne hij] at h4
          rw [Array.getElem?_modify, if_neg hij] at h5
          exact k2 i p e' h4 h5
      refine ⟨undef, _, G, .inr ⟨?_, rfl⟩, undef_rel G, moved_setO c.core hg hn hy (fun _ _ _ _ _ h => by cases h)⟩
      rcases ho with ho | ho <;> simp [execOp, ho, hu, Instr.mapUpdate, run_underlying ht, getObj_run g2 (by simp), checkKey_run hd hk h2 hko, findKey_run (kk := kk) hk f1, f3', Instr.keyThatStays, f5, setObj_run g2 (by simp)]
    · rename_i hf
      cases hx
      have f1 := findNow_rel hd h2 es ents.toList 0 (by simpa using k1) k2' _ hf
      have hy : OthRel G (.map (es ++ [(y.eval tm, z.eval tm)])) (.map (ents.push { key := a.eval q, val := a.eval s, born := clock }) (clock + 1)) := by
        refine ⟨_, _, rfl, by simp [k1], fun i p e' h4 h5 => ?_⟩
        by_cases hij : i < es.length
        · rw [List.getElem?_append_left hij] at h4
          rw [Array.getElem?_push, if_neg (by omega)] at h5
          exact k2 i p e' h4 h5
        · have hi : i = es.length := by have := (List.getElem?_eq_some_iff.1 h4).1; simp at this; omega
          subst hi
          rw [List.getElem?_append_right (Nat.le_refl _), Nat.sub_self] at h4
          rw [Array.getElem?_push, if_pos (by omega)] at h5
          cases h4; cases h5
          exact ⟨h2, h3⟩
      refine ⟨undef, _, G, .inr ⟨?_, rfl⟩, undef_rel G, moved_setO c.core hg hn hy (fun _ _ _ _ _ h => by cases h)⟩
      rcases ho with ho | ho <;> simp [execOp, ho, hu, Instr.mapUpdate, run_underlying ht, getObj_run g2 (by simp), checkKey_run hd hk h2 hko, findKey_run (kk := kk) hk f1, setObj_run g2 (by simp)]

theorem ok_lenM (c : At G σ w tm a) {o : Oper} {p : Operand} {x : XOpd} {t kt et : TypeId} {cl : Call} (ho : o.op = .call cl) (hc : cl.callee = .builtin .len) (ha : cl.args = #[p]) (hat : cl.argTypes = #[t]) (ht : P.underlying t = some (.map kt et)) (hp : OFit p x) {r : XRes} (hx : xop (.lenM x) tm σ = some r) : OpOk P o a G σ w r := by
  have h1 := hp.rel c.rel
  simp only [xop] at hx
  split at hx <;> try (cases hx; done)
  rename_i es hes
  cases hx
  obtain ⟨cs, hcs⟩ := exec_builtin1 (P := P) (a := a) ho hc ha hat w
  rcases entries_rel c.core h1 hes with ⟨e1, rfl⟩ | ⟨b, ents, clock, e1, e2, e3, e4⟩
  · refine OpOk.pure c.core (v' := .int .i64 0) ?_ (.int _ _)
    rw [hcs]
    simp [builtin, e1, Builtin.len_, run_underlying ht, goInt]
  · refine OpOk.pure c.core (v' := .int .i64 es.length) ?_ (.int _ _)
    rw [hcs]
    simp [builtin, e1, Builtin.len_, run_underlying ht, goInt, getObj_run e2 (by simp), e3]

theorem ok_isnil (c : At G σ w tm a) {o : Oper} {op : BinOp} {neg : Bool} {p : Operand} {x : XOpd} {t t' : TypeId} {ms : Array (String × TypeId)} (ho : o.op = .binOp op t p (.const .nilIface) t') (hop : (op = .eql ∧ neg = false) ∨ (op = .neq ∧ neg = true)) (ht : P.underlying t = some (.interface ms)) (hp : OFit p x) {r : XRes} (hx : xop (.isnil neg x) tm σ = some r) : OpOk P o a G σ w r := by
  have h1 := hp.rel c.rel
  simp only [xop] at hx
  generalize hu : a.eval p = u at h1
  have e : ∀ {u : Value} {b : Bool}, (match u with | .nilIface => some true | .iface _ _ => some false | _ => none) = some b → (Op.equal t u .nilIface).run P w = .ok b w := fun {u b} hb => by
    unfold Op.equal Op.maxDepth
    rw [show (10000 : Nat) = 9999 + 1 from rfl, Op.equalIn]
    simp only [Sem.run_bind, run_underlying ht, Result.andThen_ok]
    cases u <;> simp at hb <;> (subst hb; rfl)
  have hcst : a.eval (.const .nilIface) = .nilIface := rfl
  split at hx <;> try (cases hx; done)
  · rename_i e1
    rw [e1] at h1
    cases h1
    cases hx
    refine OpOk.pure c.core (v' := .bool (!neg)) ?_ (.bool _)
    have q := e (u := .nilIface) (b := true) rfl
    rcases hop with ⟨rfl, rfl⟩ | ⟨rfl, rfl⟩ <;> simp [execOp, ho, hu, eqGuard, binOp, q, hcst]
  · rename_i e1
    rw [e1] at h1
    cases h1 with
    | errv tt xx =>
      cases hx
      refine OpOk.pure c.core (v' := .bool neg) ?_ (.bool _)
      have q := e (u := .iface tt xx) (b := false) rfl
      rcases hop with ⟨rfl, rfl⟩ | ⟨rfl, rfl⟩ <;> simp [execOp, ho, hu, eqGuard, binOp, q, hcst]

theorem ok_isnilS (c : At G σ w tm a) {o : Oper} {op : BinOp} {neg : Bool} {p : Operand} {x : XOpd} {t t' e' : TypeId} {k1 k2 : Nat} (ho : o.op = .binOp op t p (.const (.slice none k1 k2)) t') (hop : (op = .eql ∧ neg = false) ∨ (op = .neq ∧ neg = true)) (ht : P.underlying t = some (.slice e')) (hp : OFit p x) {r : XRes} (hx : xop (.isnilS neg x) tm σ = some r) : OpOk P o a G σ w r := by
  have h1 := (hp.rel c.rel).down
  simp only [xop] at hx
  generalize hu : a.eval p = u at h1
  have e : ∀ {A : Option Addr} {n m : Nat}, (Op.equal t (.slice A n m) (.slice none k1 k2)).run P w = .ok A.isNone w := fun {A n m} => by
    unfold Op.equal Op.maxDepth
    rw [show (10000 : Nat) = 9999 + 1 from rfl, Op.equalIn]
    simp only [Sem.run_bind, run_underlying ht, Result.andThen_ok]
    cases A <;> rfl
  have hcst : a.eval (.const (.slice none k1 k2)) = .slice none k1 k2 := rfl
  have hg : ∀ (A : Option Addr) (n m : Nat), (eqGuard op t p (.const (.slice none k1 k2)) (.slice A n m) (.slice none k1 k2)).run P w = .ok () w := fun A n m => eqGuard_val (by simp) (by simp) w
  have fin : ∀ (A : Option Addr) (n m : Nat), u = .slice A n m → r = .val (.bool (A.isNone != neg)) σ → OpOk P o a G σ w r := by
    rintro A n m rfl rfl
    refine OpOk.pure c.core (v' := .bool (A.isNone != neg)) ?_ (.bool _)
    rcases hop with ⟨rfl, rfl⟩ | ⟨rfl, rfl⟩ <;> simp [execOp, ho, hu, hg, binOp, e, hcst]
  split at hx <;> try (cases hx; done)
  · rename_i e1
    rw [e1] at h1
    cases h1; cases hx
    exact fin none _ _ rfl (by cases neg <;> rfl)
  · rename_i e1
    rw [e1] at h1
    cases hx
    cases h1 with
    | list0 => exact fin (some _) _ _ rfl (by cases neg <;> rfl)
    | list => exact fin (some _) _ _ rfl (by cases neg <;> rfl)
  · rename_i e1
    rw [e1] at h1
    cases hx
    cases h1 with
    | mlist => exact fin (some _) _ _ rfl (by cases neg <;> rfl)
end
end Go.Proofs.YtenlllgjfbifbaaGreat.Eng
