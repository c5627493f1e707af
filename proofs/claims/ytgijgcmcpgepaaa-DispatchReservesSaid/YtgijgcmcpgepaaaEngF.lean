/-
  ENGINE, F: operations fit: function values, parts of lists, rows, appending.
-/
import Derived.Test.YtgijgcmcpgepaaaEngE
namespace Go.Proofs.Ytgijgcmcpgepaaa.Eng
set_option linter.unusedSimpArgs false
set_option linter.unusedVariables false
section
variable {P : Program} {G : Ghost} {σ : Store} {w : World} {tm : List AVal} {a : Act}

theorem put_same {σ : Store} {n : Nat} {o : NObj} (h : σ.get n = some o) : (σ.put n o).get = σ.get := by
  rw [Store.get_put]; funext k; unfold Mem.put; split
  · rename_i e; rw [← e]; exact h.symm
  · rfl

/-- What is captured is written no more. -/
theorem xcaps_rel : ∀ (l : List AVal) (G : Ghost) (σ : Store) (vs : List Value), Core G σ.get w → ARel G l vs.toArray → ∃ G', Moved G σ w G' (xcaps σ l).2 w ∧ ARel G' (xcaps σ l).1 vs.toArray := by
  intro l
  induction l with
  | nil => intro G σ vs h hr; exact ⟨G, .refl h, hr⟩
  | cons x l ih =>
    intro G σ vs h hr
    match vs, hr with
    | [], hr => have := hr.len; simp at this
    | v :: vs, hr =>
      have hv : VRel G x v := hr.val 0 x v (by simp) (by simp)
      have hr' : ARel G l vs.toArray := ⟨by have := hr.len; simpa using this, fun j y u e1 e2 => hr.val (j + 1) y u (by simpa using e1) (by simpa using e2)⟩
      obtain ⟨G1, m1, r1⟩ := ih G σ vs h hr'
      have cons_rel : ∀ {G' : Ghost} {y : AVal}, VRel G' y v → ARel G' (xcaps σ l).1 vs.toArray → ARel G' (y :: (xcaps σ l).1) (v :: vs).toArray := fun hy hr2 => by
        refine ⟨by have := hr2.len; simpa using this, fun j z u e1 e2 => ?_⟩
        cases j with
        | zero => simp at e1 e2; subst e1; subst e2; exact hy
        | succ j => exact hr2.val j z u (by simpa using e1) (by simpa using e2)
      have keep : ∃ G', Moved G σ w G' (xcaps σ l).2 w ∧ ARel G' (x :: (xcaps σ l).1) (v :: vs).toArray := ⟨G1, m1, cons_rel (hv.mono m1.ext.le) r1⟩
      simp only [xcaps]
      split
      · rename_i n _
        have hv1 := hv.mono m1.ext.le
        cases hv1 with
        | ptr _ _ b hn =>
          split
          · rename_i cs hg
            split
            · obtain ⟨G2, q1, q2, q3, q4, q5⟩ := core_freeze m1.core hg hn
              have m2 : Moved G1 (xcaps σ l).2 w G2 ((xcaps σ l).2.put n (.ro cs)) w := by
                refine ⟨by rw [Store.get_put]; exact q3, by rw [Store.get_put]; exact q4, Nat.le_refl _, fun k _ hf => ⟨by rw [q1], fun l => by rw [q2], ?_⟩⟩
                have hne : n ≠ k := by rintro rfl; rw [hf] at hg; cases hg
                rw [Store.get_put, Mem.put_ne _ hne]; exact hf
              refine ⟨G2, m1.trans m2, cons_rel ?_ (r1.mono q4.le)⟩
              have : VRel G2 (.iptr cs 0) (.pointer (some ⟨b, 0 + 0, none⟩)) := .iptr cs 0 b 0 (fun j => (G2.imm b j).getD undef)
                (fun j c hj => by obtain ⟨u, a1, a2⟩ := q5 j c hj; rw [Nat.zero_add, a1]; rfl)
                (fun j c hj => by obtain ⟨u, a1, a2⟩ := q5 j c hj; rw [a1]; exact a2)
              exact this
            · exact keep
          · rename_i cs hg
            split
            · obtain ⟨b', p1, p2⟩ := m1.core.obj n _ hg
              rw [hn] at p1; cases p1
              refine ⟨G1, m1, cons_rel ?_ r1⟩
              have : VRel G1 (.iptr cs 0) (.pointer (some ⟨b, 0 + 0, none⟩)) := .iptr cs 0 b 0 (fun j => (G1.imm b j).getD undef)
                (fun j c hj => by obtain ⟨u, a1, a2⟩ := p2 j c hj; rw [Nat.zero_add, a1]; rfl)
                (fun j c hj => by obtain ⟨u, a1, a2⟩ := p2 j c hj; rw [a1]; exact a2)
              exact this
            · exact keep
          · exact keep
      · exact keep

theorem ok_fn (c : At G σ w tm a) {o : Oper} {frz : Bool} {f : FuncId} {ps qs : List Operand} {xs ys : List XOpd} (ho : o.op = .makeFunc (.func f) ps.toArray qs.toArray) (hp : LFit ps xs) (hq : LFit qs ys) {r : XRes} (hx : xop (.fn frz f xs ys) tm σ = some r) : OpOk P o a G σ w r := by
  have h1 := hp.rel c.rel
  have h2 := hq.rel c.rel
  have hrun : (execOp a.eval o).run P w = .ok (.value (.func (.func f) (ps.map a.eval).toArray (qs.map a.eval).toArray)) w := by
    simp [execOp, ho, Instr.makeFunc]
  cases frz
  · simp only [xop, Bool.false_eq_true, if_false] at hx; cases hx
    exact OpOk.pure c.core hrun (.fn _ _ _ _ _ h1.len h2.len h1.val h2.val)
  · simp only [xop, if_true] at hx; cases hx
    obtain ⟨G', m, hr⟩ := xcaps_rel _ G σ (qs.map a.eval) c.core h2
    have h1' := h1.mono m.ext.le
    exact ⟨_, w, G', .inl hrun, .fn _ _ _ _ _ h1'.len hr.len h1'.val hr.val, m⟩

theorem sliceBound_run {k : IntKind} {n y : Nat} (h : n ≤ y) (code : BoundsCode) (w : World) : (Instr.sliceBound (.int k (n : Int)) y code).run P w = .ok n w := by
  have : (0 : Int) ≤ (n : Int) ∧ (n : Int) ≤ (y : Int) := ⟨by omega, by omega⟩
  simp [Instr.sliceBound, asIntOf_run, this]

inductive MFit : Option Operand → Option XOpd → Prop
  | none : MFit none none
  | some {p x} : OFit p x → MFit (some p) (some x)

theorem ok_slice (c : At G σ w tm a) {o : Oper} {p : Operand} {lo hi : Option Operand} {x : XOpd} {l h : Option XOpd} {t e : TypeId} {i : TypeInfo} (ho : o.op = .slice t p lo hi none) (ht : P.underlying t = some (.slice e)) (hi' : P.info? e = some i) (hp : OFit p x) (hl : MFit lo l) (hh : MFit hi h) {r : XRes} (hx : xop (.slice i.size x l h) tm σ = some r) : OpOk P o a G σ w r := by
  have h1 := (hp.rel c.rel).down
  simp only [xop] at hx
  generalize hu : a.eval p = u at h1
  split at hx <;> try (cases hx; done)
  · rename_i s xs tok e1
    split at hx <;> try (cases hx; done)
    rename_i nl nh el eh
    split at hx <;> try (cases hx; done)
    rename_i hc
    obtain ⟨rfl, hlh, hhx⟩ := hc
    cases hx
    rw [e1] at h1
    have hsh : ∃ A cap, u = .slice (some A) xs.length cap ∧ xs.length ≤ cap := by
      cases h1 with
      | list0 s tok a cap => exact ⟨_, _, rfl, Nat.zero_le _⟩
      | list _ _ _ b o' cap f hcap => exact ⟨_, _, rfl, hcap⟩
    obtain ⟨A, cap0, hA, hcapA⟩ := hsh
    have hb : (Instr.sliceBounds true xs.length cap0 (lo.map a.eval) (hi.map a.eval) none).run P w = .ok (nl, nh, cap0) w := by
      have hH : (match (hi.map a.eval), (none : Option Value) with
          | some v, some _ => Instr.sliceBound v cap0 .slice3B
          | some v, none => Instr.sliceBound v cap0 .sliceAcap
          | none, none => pure xs.length
          | none, some _ => stuck "Slice: max without high").run P w = .ok nh w := by
        cases hh with
        | none => cases eh; rfl
        | some hq =>
          obtain ⟨k, hk⟩ := idx_rel (hq.rel c.rel) eh
          simp only [Option.map_some, hk]
          exact sliceBound_run (by omega) _ w
      have hL : (match (lo.map a.eval) with
          | some v => Instr.sliceBound v nh .sliceB
          | none => pure 0).run P w = .ok nl w := by
        cases hl with
        | none => cases el; rfl
        | some hq =>
          obtain ⟨k, hk⟩ := idx_rel (hq.rel c.rel) el
          simp only [Option.map_some, hk]
          exact sliceBound_run hlh _ w
      cases hh with
      | none =>
        simp only [Option.map_none] at hH ⊢
        cases hl with
        | none => simp only [Option.map_none] at hL ⊢; simp [Instr.sliceBounds]; cases el; cases eh; exact ⟨rfl, rfl⟩
        | some hq => simp only [Option.map_some] at hL ⊢; simp [Instr.sliceBounds]; cases eh; simp [hL]
      | some hq' =>
        simp only [Option.map_some] at hH ⊢
        cases hl with
        | none => simp only [Option.map_none] at hL ⊢; simp [Instr.sliceBounds, hH]; cases el; rfl
        | some hq => simp only [Option.map_some] at hL ⊢; simp [Instr.sliceBounds, hH, hL]
    have hrunA : (execOp a.eval o).run P w = .ok (.value (.slice (if cap0 = nl then some A else some (A.add (nl * i.size))) (nh - nl) (cap0 - nl))) w := by
      simp only [execOp, ho, Sem.run_bind, Instr.sliceAt, run_underlying ht, Result.andThen_ok, Option.map_none, hu, hA, Instr.slice, hb, sizeOf_run hi', Option.map_some]
      by_cases hcl : cap0 = nl <;> simp [hcl]
    cases h1 with
    | list0 s _ a0 cap ht0 =>
      have e2 : nh = 0 := by simp at hhx; exact hhx
      have e0 : nl = 0 := by omega
      subst e2; subst e0
      cases hA
      refine OpOk.pure c.core hrunA ?_
      simp only [List.length_nil, and_self, if_true, List.take_nil, List.drop_nil]
      by_cases hcl : cap0 = 0
      · simp only [hcl, if_true]; exact .list0 _ _ _ _ (fun k hk => by simp)
      · simp only [hcl, if_false]; exact .list0 _ _ _ _ (fun k hk => by have := ht0 k hk; omega)
    | list _ _ _ b o' cap f hcap hs hI hv ht' =>
      cases hA
      have hrun : (execOp a.eval o).run P w = .ok (.value (.slice (if cap0 = nl then some ⟨b, o', none⟩ else some ⟨b, o' + nl * i.size, none⟩) (nh - nl) (cap0 - nl))) w := by
        rw [hrunA, addr_add]
      have hlen : ((xs.take nh).drop nl).length = nh - nl := by simp; omega
      have hget : ∀ (j : Nat) (y : AVal), ((xs.take nh).drop nl)[j]? = some y → xs[nl + j]? = some y := fun j y hj => by
        have hjl := (List.getElem?_eq_some_iff.1 hj).1
        rw [hlen] at hjl
        rw [List.getElem?_drop, List.getElem?_take_of_lt (by omega)] at hj
        exact hj
      refine OpOk.pure c.core hrun ?_
      by_cases hcl : cap0 = nl
      · have : (xs.take nh).drop nl = [] := List.eq_nil_of_length_eq_zero (by rw [hlen]; omega)
        simp only [hcl, if_true]
        by_cases hz : nl = 0 ∧ nh = xs.length
        · have e0 : nl = 0 := hz.1
          have e2 : nh = 0 := by omega
          have ex : xs = [] := List.eq_nil_of_length_eq_zero (by omega)
          subst ex; subst e0; subst e2; subst hcl
          simp only [List.length_nil, and_self, if_true, List.take_nil, List.drop_nil]
          exact .list _ [] tok b o' 0 f (Nat.le_refl _) (fun _ _ h => by simp at h) (fun _ _ _ _ h => by simp at h) (fun _ _ _ _ h => by simp at h) (by simpa using ht')
        · rw [if_neg hz, this, show nh - nl = ([] : List AVal).length from by simp; omega]
          exact .list _ [] none b o' _ f (by simp) (fun _ _ h => by simp at h) (fun _ _ _ _ h => by simp at h) (fun _ _ _ _ h => by simp at h) (fun _ h => by cases h)
      · simp only [hcl, if_false]
        by_cases hz : nl = 0 ∧ nh = xs.length
        · obtain ⟨rfl, rfl⟩ := hz
          simp only [and_self, if_true, List.take_length, List.drop_zero, Nat.zero_mul, Nat.add_zero, Nat.sub_zero]
          exact .list _ xs tok b o' cap0 f hcap hs hI hv ht'
        · rw [if_neg hz, ← hlen]
          refine .list _ _ none b (o' + nl * i.size) _ (fun j l => f (nl + j) l) (by rw [hlen]; omega) (fun j y hj => hs _ y (hget j y hj)) (fun j y l cc hj hl' => ?_) (fun j y l cc hj hl' => hv _ y l cc (hget j y hj) hl') (fun _ h => by cases h)
          have := hI (nl + j) y l cc (hget j y hj) hl'
          rw [show o' + nl * i.size + j * i.size + l = o' + (nl + j) * i.size + l from by rw [Nat.add_mul]; omega]
          exact this
  · rename_i e1
    split at hx <;> try (cases hx; done)
    rename_i el eh
    cases hx
    rw [e1] at h1; cases h1
    have hb : (Instr.sliceBounds true 0 0 (lo.map a.eval) (hi.map a.eval) none).run P w = .ok (0, 0, 0) w := by
      cases hh with
      | none =>
        cases hl with
        | none => simp [Instr.sliceBounds]
        | some hq =>
          obtain ⟨k, hk⟩ := idx_rel (hq.rel c.rel) el
          have := sliceBound_run (P := P) (k := k) (n := 0) (y := 0) (Nat.le_refl _) .sliceB w
          simp [Instr.sliceBounds, hk]
          simp at this
          simp [this]
      | some hq' =>
        obtain ⟨k', hk'⟩ := idx_rel (hq'.rel c.rel) eh
        have e1 := sliceBound_run (P := P) (k := k') (n := 0) (y := 0) (Nat.le_refl _) .sliceAcap w
        cases hl with
        | none =>
          simp [Instr.sliceBounds, hk']
          simp at e1
          simp [e1]
        | some hq =>
          obtain ⟨k, hk⟩ := idx_rel (hq.rel c.rel) el
          have e2 := sliceBound_run (P := P) (k := k) (n := 0) (y := 0) (Nat.le_refl _) .sliceB w
          simp [Instr.sliceBounds, hk, hk']
          simp at e1 e2
          simp [e1, e2]
    refine OpOk.pure c.core (v' := .slice none 0 0) ?_ .nils
    simp only [execOp, ho, Sem.run_bind, Instr.sliceAt, run_underlying ht, Result.andThen_ok, Option.map_none, hu, Instr.slice, hb, sizeOf_run hi', Option.map_some]
    simp
  · rename_i s n off len e1
    split at hx <;> try (cases hx; done)
    rename_i nl nh el eh
    split at hx <;> try (cases hx; done)
    rename_i hhx
    rw [e1] at h1
    cases h1 with
    | mlist _ _ _ _ b cap hn hcap =>
    have hb : (Instr.sliceBounds true len cap (lo.map a.eval) (hi.map a.eval) none).run P w = .ok (nl, nh, cap) w := by
      have hL : ∀ code, (match (lo.map a.eval) with
          | some v => Instr.sliceBound v nh code
          | none => pure 0).run P w = .ok nl w := by
        intro code
        cases hl with
        | none => cases el; rfl
        | some hq =>
          obtain ⟨k, hk⟩ := idx_rel (hq.rel c.rel) el
          simp only [Option.map_some, hk]
          exact sliceBound_run hhx.1 _ w
      cases hh with
      | none =>
        cases eh
        cases hl with
        | none => cases el; simp [Instr.sliceBounds]
        | some hq => have := hL .sliceB; simp only [Option.map_some] at this ⊢; simp [Instr.sliceBounds]; simp [this]
      | some hq' =>
        obtain ⟨k, hk⟩ := idx_rel (hq'.rel c.rel) eh
        have hH := sliceBound_run (P := P) (k := k) (n := nh) (y := cap) (by omega) .sliceAcap w
        cases hl with
        | none => cases el; simp [Instr.sliceBounds, hk, hH]
        | some hq => have := hL .sliceB; simp only [Option.map_some] at this ⊢; simp [Instr.sliceBounds, hk, hH, this]
    have hrunA : (execOp a.eval o).run P w = .ok (.value (.slice (if cap = nl then some ⟨b, off, none⟩ else some ⟨b, off + nl * i.size, none⟩) (nh - nl) (cap - nl))) w := by
      simp only [execOp, ho, Sem.run_bind, Instr.sliceAt, run_underlying ht, Result.andThen_ok, Option.map_none, hu, Instr.slice, hb, sizeOf_run hi', Option.map_some]
      by_cases hcl : cap = nl <;> simp [hcl, addr_add]
    split at hx
    · rename_i h0
      cases hx
      subst h0
      refine OpOk.pure c.core hrunA ?_
      have : (if cap = 0 then some (⟨b, off, none⟩ : Addr) else some ⟨b, off + 0 * i.size, none⟩) = some ⟨b, off, none⟩ := by by_cases hcl : cap = 0 <;> simp [hcl]
      rw [this]
      exact .mlist _ _ _ _ _ _ hn (by omega)
    · split at hx
      · cases hx
        rename_i h0 h2
        refine OpOk.pure c.core hrunA ?_
        rw [if_neg (by omega)]
        exact .mlist _ _ _ _ _ _ hn (by omega)
      · cases hx
        rename_i h0 h2
        refine OpOk.pure c.core hrunA ?_
        have : nh - nl = 0 := by omega
        rw [this]
        by_cases hcl : cap = nl
        · simp only [hcl, if_true]; exact .list0 _ _ _ _ (fun k hk => by cases hk)
        · simp only [hcl, if_false]; exact .list0 _ _ _ _ (fun k hk => by cases hk)

theorem moved_tok0 (h : Core G σ.get w) (hf : Fresh G σ.get σ.next) (e : TypeId) (s : Nat) : Moved G σ w G (σ.new (.tok e s 0)) w := by
  obtain ⟨h1, h2⟩ := core_tok0 h hf e s
  refine ⟨by rw [Store.get_new]; exact h1, by rw [Store.get_new]; exact h2, Nat.le_succ _, fun m hm hf' => ⟨rfl, fun _ => rfl, ?_⟩⟩
  have hne : m ≠ σ.next := by simp [Store.new] at hm; omega
  rw [Store.get_new, Mem.put_ne _ (Ne.symm hne)]; exact hf'

theorem ok_sliceF (c : At G σ w tm a) {o : Oper} {p q : Operand} {x lo : XOpd} {t e : TypeId} {i : TypeInfo} (ho : o.op = .slice t p (some q) none none) (ht : P.underlying t = some (.slice e)) (hi' : P.info? e = some i) (hp : OFit p x) (hq : OFit q lo) {r : XRes} (hx : xop (.sliceF e i.size x lo) tm σ = some r) (hn : News G σ (r.nx σ)) : OpOk P o a G σ w r := by
  have h1 := hp.rel c.rel
  have hx0 := hx
  simp only [xop] at hx
  split at hx <;> try (cases hx; done)
  rename_i s xs tok l e1 e2
  split at hx <;> try (cases hx; done)
  rename_i hc
  obtain ⟨rfl, hle⟩ := hc
  split at hx
  · rename_i hf
    obtain ⟨rfl, hf⟩ := hf
    cases hx
    unfold isFull at hf
    split at hf <;> try (cases hf; done)
    rename_i k
    split at hf <;> try (cases hf; done)
    rename_i k' n hg
    simp only [Bool.and_eq_true, Nat.beq_eq] at hf
    obtain ⟨rfl, rfl⟩ := hf
    obtain ⟨b0, hH⟩ := c.core.obj _ _ hg
    rw [e1] at h1
    obtain ⟨kq, hkq⟩ := idx_rel (hq.rel c.rel) e2
    generalize hu : a.eval p = u at h1
    have hA : ∃ A, u = .slice (some A) xs.length xs.length := by
      cases h1 with
      | list0 s tok a cap ht0 => exact ⟨_, by rw [ht0 _ rfl]; rfl⟩
      | list _ _ _ b o' cap f hcap hs hI hv ht' =>
        have := (ht' _ rfl).2
        rw [hH] at this
        cases this
        exact ⟨_, rfl⟩
    obtain ⟨A, rfl⟩ := hA
    have hb : (Instr.sliceBounds true xs.length xs.length (some (a.eval q)) none none).run P w = .ok (xs.length, xs.length, xs.length) w := by
      have := sliceBound_run (P := P) (k := kq) (n := xs.length) (y := xs.length) (Nat.le_refl _) .sliceB w
      simp [Instr.sliceBounds, hkq, this]
    have hrun : (execOp a.eval o).run P w = .ok (.value (.slice (some A) 0 0)) w := by
      simp only [execOp, ho, Sem.run_bind, Instr.sliceAt, run_underlying ht, Result.andThen_ok, Option.map_none, Option.map_some, hu, Instr.slice, hb, sizeOf_run hi']
      simp
    exact ⟨_, w, G, .inl hrun, .list0 _ _ _ _ (fun _ _ => rfl), moved_tok0 c.core (hn _ (Nat.le_refl _) (Nat.lt_succ_self _)) e i.size⟩
  · refine ok_slice c ho ht hi' hp (.some hq) .none ?_ (h := none) (l := some lo)
    simp only [xop, e1, e2, down_list]
    rw [if_pos ⟨trivial, hle, Nat.le_refl _⟩]
    exact hx

theorem ok_sliceV (c : At G σ w tm a) {o : Oper} {p q : Operand} {x hi : XOpd} {t e : TypeId} {i : TypeInfo} (ho : o.op = .slice t p none (some q) none) (ht : P.underlying t = some (.slice e)) (hi' : P.info? e = some i) (hp : OFit p x) (hq : OFit q hi) {r : XRes} (hx : xop (.sliceV i.size x hi) tm σ = some r) : OpOk P o a G σ w r := by
  have h1 := hp.rel c.rel
  simp only [xop] at hx
  split at hx <;> try (cases hx; done)
  · rename_i e0 s n len l e1 e2
    split at hx <;> try (cases hx; done)
    rename_i hc
    obtain ⟨rfl, hle⟩ := hc
    cases hx
    rw [e1] at h1
    obtain ⟨kq, hkq⟩ := idx_rel (hq.rel c.rel) e2
    generalize hu : a.eval p = u at h1
    cases h1 with
    | vlist _ _ _ _ b cap tot hn hH hcap hroom =>
      have hb : (Instr.sliceBounds true len cap none (some (a.eval q)) none).run P w = .ok (0, l, cap) w := by
        have := sliceBound_run (P := P) (k := kq) (n := l) (y := cap) (by omega) .sliceAcap w
        simp [Instr.sliceBounds, hkq, this]
      have hrun : (execOp a.eval o).run P w = .ok (.value (.slice (some ⟨b, 0, none⟩) l cap)) w := by
        simp only [execOp, ho, Sem.run_bind, Instr.sliceAt, run_underlying ht, Result.andThen_ok, Option.map_none, Option.map_some, hu, Instr.slice, hb, sizeOf_run hi']
        simp [addr_add]
      exact OpOk.pure c.core hrun (.vlist _ _ _ _ b cap tot hn hH (by omega) hroom)
  · rename_i s xs tok l e1 e2
    split at hx <;> try (cases hx; done)
    rename_i hc
    obtain ⟨rfl, hle⟩ := hc
    cases hx
    refine ok_slice c ho ht hi' hp .none (.some hq) ?_ (l := none) (h := some hi)
    simp only [xop, e1, e2, down_list]
    simp [hle]
  · rename_i e1 e2
    cases hx
    refine ok_slice c ho ht hi' hp .none (.some hq) ?_ (l := none) (h := some hi)
    simp only [xop, e1, e2]
    rfl
  · rename_i s n off len l e1 e2
    split at hx <;> try (cases hx; done)
    rename_i hle
    cases hx
    refine ok_slice c ho ht hi' hp .none (.some hq) ?_ (l := none) (h := some hi)
    simp only [xop, e1, e2]
    simp [AVal.down, hle]

theorem ok_clip (c : At G σ w tm a) {o : Oper} {p q r' : Operand} {x h m : XOpd} {t e : TypeId} {i : TypeInfo} (ho : o.op = .slice t p none (some q) (some r')) (ht : P.underlying t = some (.slice e)) (hi' : P.info? e = some i) (hp : OFit p x) (hq : OFit q h) (hr : OFit r' m) {r : XRes} (hx : xop (.clip e i.size x h m) tm σ = some r) (hn : News G σ (r.nx σ)) : OpOk P o a G σ w r := by
  have h1 := (hp.rel c.rel).down
  simp only [xop] at hx
  split at hx <;> try (cases hx; done)
  rename_i eh em
  obtain ⟨kh, hkh⟩ := idx_rel (hq.rel c.rel) eh
  obtain ⟨km, hkm⟩ := idx_rel (hr.rel c.rel) em
  have hb : ∀ len cap, (Instr.sliceBounds true len cap none (some (a.eval q)) (some (a.eval r'))).run P w = .ok (0, 0, 0) w := fun len cap => by
    have e1 := sliceBound_run (P := P) (k := km) (n := 0) (y := cap) (Nat.zero_le _) .slice3Acap w
    have e2 := sliceBound_run (P := P) (k := kh) (n := 0) (y := 0) (Nat.zero_le _) .slice3B w
    simp [Instr.sliceBounds, hkh, hkm]
    simp at e1 e2
    simp [e1, e2]
  have hrun : ∀ A len cap, a.eval p = .slice A len cap → (execOp a.eval o).run P w = .ok (.value (.slice A 0 0)) w := fun A len cap hu => by
    simp only [execOp, ho, Sem.run_bind, Instr.sliceAt, run_underlying ht, Result.andThen_ok, Option.map_none, hu, Instr.slice, hb, sizeOf_run hi', Option.map_some]
    simp
  generalize hu : a.eval p = u at h1
  have fin : ∀ A len cap, u = .slice (some A) len cap → r = .val (.list i.size [] (some σ.next)) (σ.new (.tok e i.size 0)) → OpOk P o a G σ w r := by
    rintro A len cap rfl rfl
    exact ⟨_, w, G, .inl (hrun _ _ _ hu), .list0 _ _ _ _ (fun _ _ => rfl), moved_tok0 c.core (hn _ (Nat.le_refl _) (Nat.lt_succ_self _)) e i.size⟩
  split at hx <;> try (cases hx; done)
  · rename_i e1
    cases hx
    rw [e1] at h1; cases h1
    exact OpOk.pure c.core (hrun _ _ _ hu) .nils
  · rename_i e1
    cases hx
    rw [e1] at h1
    cases h1 with
    | list0 s _ a0 cap => exact fin _ _ _ rfl rfl
    | list _ _ _ b o' cap f hcap => exact fin _ _ _ rfl rfl
  · rename_i e1
    cases hx
    rw [e1] at h1
    cases h1 with
    | mlist _ _ _ _ b cap hn hcap => exact fin _ _ _ rfl rfl
end
end Go.Proofs.Ytgijgcmcpgepaaa.Eng
