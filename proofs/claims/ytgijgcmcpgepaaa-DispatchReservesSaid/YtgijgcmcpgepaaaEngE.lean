/-
  ENGINE, E: operations fit: numbers, strings, parts, calls.
-/
import Derived.Test.YtgijgcmcpgepaaaEngD
import Derived.Laws.StructEq
import Derived.ChangeKeysEq
namespace Go.Proofs.Ytgijgcmcpgepaaa.Eng
set_option linter.unusedSimpArgs false
set_option linter.unusedVariables false
section
variable {P : Program} {G : Ghost} {σ : Store} {w : World} {tm : List AVal} {a : Act}

theorem xint_rel {op : BinOp} {k : IntKind} {x y : Int} {v : AVal} (h : xint op k x y = some v) (t : TypeId) (w : World) : ∃ v', (binOp op t (.int k x) (.int k y)).run P w = .ok v' w ∧ ∀ G, VRel G v v' := by
  cases op <;> simp only [xint] at h <;> try (cases h; done)
  case add => cases h; exact ⟨_, by simp [binOp, Op.intArith], fun G => .int _ _⟩
  case sub => cases h; exact ⟨_, by simp [binOp, Op.intArith], fun G => .int _ _⟩
  case mul => cases h; exact ⟨_, by simp [binOp, Op.intArith], fun G => .int _ _⟩
  case quo =>
    split at h <;> try (cases h; done)
    rename_i hy
    cases h; exact ⟨_, by simp [binOp, Op.intDiv, hy], fun G => .int _ _⟩
  case rem =>
    split at h <;> try (cases h; done)
    rename_i hy
    cases h; exact ⟨_, by simp [binOp, Op.intDiv, hy], fun G => .int _ _⟩
  case and => simp only [xbits, Option.map_some] at h; cases h; exact ⟨_, by simp [binOp, Op.intBits], fun G => .int _ _⟩
  case or => simp only [xbits, Option.map_some] at h; cases h; exact ⟨_, by simp [binOp, Op.intBits], fun G => .int _ _⟩
  case xor => simp only [xbits, Option.map_some] at h; cases h; exact ⟨_, by simp [binOp, Op.intBits], fun G => .int _ _⟩
  case andNot => simp only [xbits, Option.map_some] at h; cases h; exact ⟨_, by simp [binOp, Op.intBits], fun G => .int _ _⟩
  case eql => cases h; exact ⟨_, by simp [binOp, Op.intCmp], fun G => .bool _⟩
  case neq => cases h; exact ⟨_, by simp [binOp, Op.intCmp], fun G => .bool _⟩
  case lss => cases h; exact ⟨_, by simp [binOp, Op.intCmp], fun G => .bool _⟩
  case leq => cases h; exact ⟨_, by simp [binOp, Op.intCmp], fun G => .bool _⟩
  case gtr => cases h; exact ⟨_, by simp [binOp, Op.intCmp], fun G => .bool _⟩
  case shl =>
    split at h <;> try (cases h; done)
    rename_i hy
    cases h; exact ⟨_, by simp [binOp, Op.shift, hy], fun G => .int _ _⟩
  case shr =>
    split at h <;> try (cases h; done)
    rename_i hy
    cases h; exact ⟨_, by simp [binOp, Op.shift, hy], fun G => .int _ _⟩
  case geq => cases h; exact ⟨_, by simp [binOp, Op.intCmp], fun G => .bool _⟩

theorem xstr_rel {op : BinOp} {x y : ByteArray} {v : AVal} (h : xstr op x y = some v) (t : TypeId) (w : World) : ∃ v', (binOp op t (.string x) (.string y)).run P w = .ok v' w ∧ ∀ G, VRel G v v' := by
  cases op <;> simp only [xstr] at h <;> try (cases h; done)
  case add =>
    split at h <;> try (cases h; done)
    rename_i hy
    cases h
    have : ¬ (((x.size + y.size : Nat) : Int) > IntKind.i64.max) := by
      have e : IntKind.i64.max = 9223372036854775807 := by decide
      rw [e]; omega
    exact ⟨_, by simp only [binOp, Op.stringOp, if_neg this]; rfl, fun G => .str _⟩
  all_goals (cases h; exact ⟨_, by simp only [binOp, Op.stringOp]; rfl, fun G => .bool _⟩)

theorem eqGuard_val {op : BinOp} {t : TypeId} {p q : Operand} {u v : Value} (h1 : u ≠ .nilIface) (h2 : ∀ c, u ≠ .agg c) (w : World) : (eqGuard op t p q u v).run P w = .ok () w := by
  cases u <;> first | exact absurd rfl h1 | exact absurd rfl (h2 _) | (cases op <;> simp [eqGuard])

theorem xflt_rel {op : BinOp} {k : FloatKind} {x y : Nat} {v : AVal} (h : xflt op k x y = some v) (t : TypeId) (w : World) : ∃ v', (binOp op t (.float k x) (.float k y)).run P w = .ok v' w ∧ ∀ G, VRel G v v' := by
  cases op <;> simp only [xflt] at h <;> try (cases h; done)
  case add => obtain ⟨r, h1, rfl⟩ := map_some h; exact ⟨.float k r, by simp [binOp, Op.floatArith, h1], fun G => .flt _ _⟩
  case sub => obtain ⟨r, h1, rfl⟩ := map_some h; exact ⟨.float k r, by simp [binOp, Op.floatArith, h1], fun G => .flt _ _⟩
  case mul => obtain ⟨r, h1, rfl⟩ := map_some h; exact ⟨.float k r, by simp [binOp, Op.floatArith, h1], fun G => .flt _ _⟩
  case quo => obtain ⟨r, h1, rfl⟩ := map_some h; exact ⟨.float k r, by simp [binOp, Op.floatArith, h1], fun G => .flt _ _⟩
  all_goals (cases h; exact ⟨_, by simp only [binOp, Op.floatCmp, ne_eq, not_true_eq_false, if_false]; rfl, fun G => .bool _⟩)

theorem arith_run {op : BinOp} {k : FloatKind} {x y r : Nat} (h : (match op with | .add => k.format.add x y | .sub => k.format.sub x y | .mul => k.format.mul x y | .quo => k.format.div x y | _ => none) = some r) (w : World) : (Op.Complex.arith op k x y).run P w = .ok r w := by
  cases op <;> simp only at h <;> try (cases h; done)
  all_goals simp [Op.Complex.arith, Op.floatArith, h]
theorem cmpEq_run {k : FloatKind} {x y : Nat} (w : World) : (Op.Complex.cmp .eql k x y).run P w = .ok (k.format.order x y == some .eq) w := by
  simp [Op.Complex.cmp, Op.floatCmp, asBool]
theorem cconv_run {k : FloatKind} {x : Nat} (w : World) : (Op.Complex.conv k x k).run P w = .ok x w := by
  simp [Op.Complex.conv]

theorem xcpx_rel {op : BinOp} {k : FloatKind} {a b c d : Nat} {v : AVal} (h : xcpx op k a b c d = some v) (t : TypeId) (w : World) : ∃ v', (binOp op t (.complex k a b) (.complex k c d)).run P w = .ok v' w ∧ ∀ G, VRel G v v' := by
  have hb : binOp op t (.complex k a b) (.complex k c d) = Op.complexOp op k a b c d := by
    cases op <;> simp [binOp]
  rw [hb]
  cases op <;> simp only [xcpx] at h <;> try (cases h; done)
  case add =>
    split at h <;> try (cases h; done)
    rename_i e f h1 h2
    cases h
    exact ⟨.complex k e f, by simp [Op.complexOp, arith_run (op := .add) h1, arith_run (op := .add) h2], fun G => .cpx _ _ _⟩
  case sub =>
    split at h <;> try (cases h; done)
    rename_i e f h1 h2
    cases h
    exact ⟨.complex k e f, by simp [Op.complexOp, arith_run (op := .sub) h1, arith_run (op := .sub) h2], fun G => .cpx _ _ _⟩
  case mul =>
    split at h <;> try (cases h; done)
    rename_i hk; subst hk
    split at h <;> try (cases h; done)
    rename_i e f hp
    cases h
    unfold xprod at hp
    split at hp <;> try (cases hp; done)
    rename_i ac bd ad bc h1 h2 h3 h4
    split at hp <;> try (cases hp; done)
    rename_i e' f' h5 h6
    cases hp
    refine ⟨.complex .f64 e f, ?_, fun G => .cpx _ _ _⟩
    have m1 := arith_run (P := P) (op := .mul) (k := .f64) h1 w
    have m2 := arith_run (P := P) (op := .mul) (k := .f64) h2 w
    have m3 := arith_run (P := P) (op := .mul) (k := .f64) h3 w
    have m4 := arith_run (P := P) (op := .mul) (k := .f64) h4 w
    have m5 := arith_run (P := P) (op := .sub) (k := .f64) h5 w
    have m6 := arith_run (P := P) (op := .add) (k := .f64) h6 w
    have hq : (Op.Complex.product a b c d).run P w = .ok (e, f) w := by
      simp [Op.Complex.product, Op.Complex.mul, Op.Complex.sub, Op.Complex.add, m1, m2, m3, m4, m5, m6]
    simp [Op.complexOp, cconv_run, hq]
  case eql => cases h; exact ⟨_, by simp only [Op.complexOp, Sem.run_bind, cmpEq_run, Result.andThen_ok, Sem.run_pure], fun G => .bool _⟩
  case neq => cases h; exact ⟨_, by simp only [Op.complexOp, Sem.run_bind, cmpEq_run, Result.andThen_ok, Sem.run_pure], fun G => .bool _⟩

theorem ok_bin (c : At G σ w tm a) {o : Oper} {op : BinOp} {p q : Operand} {x y : XOpd} {t t2 : TypeId} (ho : o.op = .binOp op t p q t2) (hp : OFit p x) (hq : OFit q y) {r : XRes} (hx : xop (.bin op x y) tm σ = some r) : OpOk P o a G σ w r := by
  have h1 := hp.rel c.rel
  have h2 := hq.rel c.rel
  simp only [xop] at hx
  cases hb : xbin op (x.eval tm) (y.eval tm) with
  | none => rw [hb] at hx; cases hx
  | some v =>
    rw [hb] at hx; cases hx
    generalize hu : a.eval p = u at h1
    generalize hv : a.eval q = u' at h2
    unfold xbin at hb
    split at hb
    · rename_i k n k' m e1 e2
      split at hb <;> try (cases hb; done)
      rename_i hk; subst hk
      rw [e1] at h1; rw [e2] at h2
      cases h1; cases h2
      obtain ⟨v', g1, g2⟩ := xint_rel (P := P) hb t w
      refine OpOk.pure c.core (v' := v') ?_ (g2 G)
      simp [execOp, ho, hu, hv, eqGuard_val (P := P) (u := .int k n) (by simp) (by simp), g1]
    · rename_i k n k' m e1 e2
      split at hb <;> try (cases hb; done)
      rename_i hk; subst hk
      rw [e1] at h1; rw [e2] at h2
      cases h1; cases h2
      obtain ⟨v', g1, g2⟩ := xflt_rel (P := P) hb t w
      refine OpOk.pure c.core (v' := v') ?_ (g2 G)
      simp [execOp, ho, hu, hv, eqGuard_val (P := P) (u := .float k n) (by simp) (by simp), g1]
    · rename_i k n1 n2 k' m1 m2 e1 e2
      split at hb <;> try (cases hb; done)
      rename_i hk; subst hk
      rw [e1] at h1; rw [e2] at h2
      cases h1; cases h2
      obtain ⟨v', g1, g2⟩ := xcpx_rel (P := P) hb t w
      refine OpOk.pure c.core (v' := v') ?_ (g2 G)
      simp [execOp, ho, hu, hv, eqGuard_val (P := P) (u := .complex k n1 n2) (by simp) (by simp), g1]
    · rename_i s s' e1 e2
      rw [e1] at h1; rw [e2] at h2
      cases h1; cases h2
      obtain ⟨v', g1, g2⟩ := xstr_rel (P := P) hb t w
      refine OpOk.pure c.core (v' := v') ?_ (g2 G)
      simp [execOp, ho, hu, hv, eqGuard_val (P := P) (u := .string s) (by simp) (by simp), g1]
    · cases hb

theorem run_equalIn_bool {t : TypeId} (ht : P.underlying t = some .bool) (b b' : Bool) (d : Nat) (w : World) : (Op.equalIn (d + 1) t (.bool b) (.bool b')).run P w = .ok (b == b') w := by
  simp [Op.equalIn, run_underlying ht]
theorem run_equal_bool {t : TypeId} (ht : P.underlying t = some .bool) (b b' : Bool) (w : World) : (Op.equal t (.bool b) (.bool b')).run P w = .ok (b == b') w :=
  run_equalIn_bool ht b b' 9999 w
theorem run_eql_any {t : TypeId} {u v : Value} {x : Bool} (h : (Op.equal t u v).run P w = .ok x w) (hu : (∃ b, u = .bool b) ∨ (∃ c, u = .agg c) ∨ (∃ a n c, u = .slice a n c)) :
    (binOp .eql t u v).run P w = .ok (.bool x) w ∧ (binOp .neq t u v).run P w = .ok (.bool (!x)) w := by
  have e1 : binOp .eql t u v = (do pure (.bool (← Op.equal t u v))) := by
    rcases hu with ⟨b, rfl⟩ | ⟨c, rfl⟩ | ⟨a, n, c, rfl⟩ <;> (cases v <;> rfl)
  have e2 : binOp .neq t u v = (do pure (.bool (!(← Op.equal t u v)))) := by
    rcases hu with ⟨b, rfl⟩ | ⟨c, rfl⟩ | ⟨a, n, c, rfl⟩ <;> (cases v <;> rfl)
  rw [e1, e2]
  simp [h]

theorem ok_eqb (c : At G σ w tm a) {o : Oper} {op : BinOp} {p q : Operand} {x y : XOpd} {t t2 : TypeId} (neg : Bool) (hop : op = if neg then .neq else .eql) (ho : o.op = .binOp op t p q t2) (ht : P.underlying t = some .bool) (hp : OFit p x) (hq : OFit q y) {r : XRes} (hx : xop (.eqb neg x y) tm σ = some r) : OpOk P o a G σ w r := by
  have h1 := hp.rel c.rel
  have h2 := hq.rel c.rel
  simp only [xop] at hx
  split at hx <;> try (cases hx; done)
  rename_i b b' e1 e2
  cases hx
  generalize hu : a.eval p = u at h1
  generalize hv : a.eval q = u' at h2
  rw [e1] at h1; rw [e2] at h2
  cases h1; cases h2
  refine OpOk.pure c.core (v' := .bool (if neg then !(b == b') else b == b')) ?_ (.bool _)
  have hg := fun w => eqGuard_val (P := P) (op := op) (t := t) (p := p) (q := q) (u := .bool b) (v := .bool b') (by simp) (by simp) w
  obtain ⟨k1, k2⟩ := run_eql_any (run_equal_bool ht b b' w) (.inl ⟨b, rfl⟩)
  cases neg
  · simp only [Bool.false_eq_true, if_false] at hop
    subst hop
    simp [execOp, ho, hu, hv, hg, k1]
  · simp only [if_true] at hop
    subst hop
    simp [execOp, ho, hu, hv, hg, k2]

theorem ok_un (c : At G σ w tm a) {o : Oper} {op : UnOp} {p : Operand} {x : XOpd} {t : TypeId} (ho : o.op = .unOp op t p) (hp : OFit p x) {r : XRes} (hx : xop (.un op x) tm σ = some r) : OpOk P o a G σ w r := by
  have h1 := hp.rel c.rel
  simp only [xop] at hx
  cases hb : xun op (x.eval tm) with
  | none => rw [hb] at hx; cases hx
  | some v =>
    rw [hb] at hx; cases hx
    generalize hu : a.eval p = u at h1
    unfold xun at hb
    split at hb <;> try (cases hb; done)
    · rename_i k n e1
      split at hb <;> try (cases hb; done)
      cases hb
      rw [e1] at h1; cases h1
      exact OpOk.pure c.core (v' := .int k (k.wrap (0 - n))) (by simp [execOp, ho, hu, Op.unary, Op.intArith]) (.int _ _)
    · rename_i b e1
      split at hb <;> try (cases hb; done)
      cases hb
      rw [e1] at h1; cases h1
      exact OpOk.pure c.core (v' := .bool (!b)) (by simp [execOp, ho, hu, Op.unary]) (.bool _)
    · rename_i k n e1
      split at hb <;> try (cases hb; done)
      cases hb
      rw [e1] at h1; cases h1
      exact OpOk.pure c.core (v' := .float k (Op.negFloat k n)) (by simp [execOp, ho, hu, Op.unary]) (.flt _ _)
    · rename_i k n m e1
      split at hb <;> try (cases hb; done)
      cases hb
      rw [e1] at h1; cases h1
      exact OpOk.pure c.core (v' := .complex k (Op.negFloat k n) (Op.negFloat k m)) (by simp [execOp, ho, hu, Op.unary]) (.cpx _ _ _)

theorem ok_toFloat (c : At G σ w tm a) {o : Oper} {p : Operand} {x y : XOpd} {s d : TypeId} {ds : TypeDesc} {k : FloatKind} (ho : o.op = .convert s d p) (hs : P.underlying s = some ds) (hd : P.underlying d = some (.float k)) (hp : OFit p x) {r : XRes} (hx : xop (.fl 0 k x y) tm σ = some r) : OpOk P o a G σ w r := by
  have h1 := hp.rel c.rel
  simp only [xop] at hx
  obtain ⟨v, hv, rfl⟩ := map_some hx
  generalize hu : a.eval p = u at h1
  generalize x.eval tm = X at *
  cases X <;> simp only [xfl] at hv <;> try (cases hv; done)
  cases hv
  cases h1
  refine OpOk.pure c.core ?_ (.flt _ _)
  simp [execOp, ho, hu, convert, run_underlying hs, run_underlying hd, Conv.intToFloat]
theorem ok_toInt (c : At G σ w tm a) {o : Oper} {p : Operand} {x y : XOpd} {s d : TypeId} {ds : TypeDesc} {k : FloatKind} (ho : o.op = .convert s d p) (hs : P.underlying s = some ds) (hd : P.underlying d = some (.int .i64)) (hp : OFit p x) {r : XRes} (hx : xop (.fl 4 k x y) tm σ = some r) : OpOk P o a G σ w r := by
  have h1 := hp.rel c.rel
  simp only [xop] at hx
  obtain ⟨v, hv, rfl⟩ := map_some hx
  generalize hu : a.eval p = u at h1
  generalize x.eval tm = X at *
  cases X <;> simp only [xfl] at hv <;> try (cases hv; done)
  split at hv <;> try (cases hv; done)
  rename_i m hm
  split at hv <;> try (cases hv; done)
  rename_i hb
  cases hv
  cases h1
  refine OpOk.pure c.core ?_ (.int _ _)
  have e : ∀ (k1 : FloatKind) (n1 : Nat), (k1.decode n1).toInt .zero = some m → Conv.floatToInt k1 n1 .i64 = pure (.int .i64 m) := fun k1 n1 h => by
    unfold Conv.floatToInt; rw [h]; exact if_pos hb
  simp [execOp, ho, hu, convert, run_underlying hs, run_underlying hd, e _ _ hm]

theorem ok_conv (c : At G σ w tm a) {o : Oper} {p : Operand} {x : XOpd} {s d : TypeId} {ds : TypeDesc} {k : IntKind} (ho : o.op = .convert s d p) (hs : P.underlying s = some ds) (hd : P.underlying d = some (.int k)) (hp : OFit p x) {r : XRes} (hx : xop (.conv k x) tm σ = some r) : OpOk P o a G σ w r := by
  have h1 := hp.rel c.rel
  simp only [xop] at hx
  split at hx <;> try (cases hx; done)
  rename_i k' n e1
  cases hx
  generalize hu : a.eval p = u at h1
  rw [e1] at h1; cases h1
  refine OpOk.pure c.core (v' := .int k (k.wrap n)) ?_ (.int _ _)
  simp [execOp, ho, hu, convert, run_underlying hs, run_underlying hd, Conv.intToInt]

theorem idx_rel {x : AVal} {v : Value} (h : VRel G x v) {n : Nat} (hx : idx x = some n) : ∃ k, v = .int k (n : Int) := by
  unfold idx at hx
  split at hx <;> try (cases hx; done)
  cases hx
  cases h
  exact ⟨_, rfl⟩

theorem ok_faddr (c : At G σ w tm a) {o : Oper} {p : Operand} {x : XOpd} {s : TypeId} {n : Nat} {fs : Array Field} {f : Field} {i : TypeInfo} (ho : o.op = .fieldAddr s p n) (hs : P.underlying s = some (.struct fs)) (hf : fs[n]? = some f) (hi : P.info? f.type = some i) (hz : i.size ≠ 0) (hp : OFit p x) {r : XRes} (hx : xop (.faddr f.offset x) tm σ = some r) : OpOk P o a G σ w r := by
  have h1 := hp.rel c.rel
  simp only [xop] at hx
  split at hx <;> try (cases hx; done)
  · rename_i m off e1
    cases hx
    generalize hu : a.eval p = u at h1
    rw [e1] at h1
    cases h1 with
    | ptr _ _ b hn =>
      refine OpOk.pure c.core (v' := .pointer (some ⟨b, off + f.offset, none⟩)) ?_ (.ptr _ _ _ hn)
      simp [execOp, ho, hu, Instr.fieldAt, run_underlying hs, hf, Instr.sureAddr, fieldPlace, sizeOf_run hi, hz, addr_add]
  · rename_i cs off e1
    cases hx
    generalize hu : a.eval p = u at h1
    rw [e1] at h1
    cases h1 with
    | iptr _ _ b o' g hI hv =>
      refine OpOk.pure c.core (v' := .pointer (some ⟨b, o' + (off + f.offset), none⟩)) ?_ (.iptr _ _ _ _ g hI hv)
      simp [execOp, ho, hu, Instr.fieldAt, run_underlying hs, hf, Instr.sureAddr, fieldPlace, sizeOf_run hi, hz, addr_add, Nat.add_assoc]

/-- A part of a row. -/
theorem part_agg {cs : List AVal} {c : Array Value} (hr : ARel G cs c) {t : TypeId} {d : TypeDesc} {i : TypeInfo} (ht : P.underlying t = some d) (hd : TypeDesc.isAggB d = true) (hi : P.info? t = some i) {off : Nat} (hl : off + i.size ≤ cs.length) (w : World) :
    ∃ v, (part t c off).run P w = .ok v w ∧ VRel G (.agg ((cs.drop off).take i.size)) v := by
  refine ⟨.agg (c.extract off (off + i.size)), by simp [part, isAgg_run ht, hd, sizeOf_run hi], VRel.mk_agg ⟨?_, fun j x v h1 h2 => ?_⟩⟩
  · simp [hr.len]; omega
  · have hj : j < i.size := by
      have := (List.getElem?_eq_some_iff.1 h1).1
      simp at this; omega
    rw [List.getElem?_take_of_lt hj, List.getElem?_drop] at h1
    rw [Array.getElem?_extract] at h2
    split at h2 <;> try (cases h2; done)
    exact hr.val (off + j) x v h1 h2
theorem part_one {cs : List AVal} {c : Array Value} (hr : ARel G cs c) {t : TypeId} {d : TypeDesc} (ht : P.underlying t = some d) (hd : TypeDesc.isAggB d = false) {off : Nat} {x : AVal} (hx : cs[off]? = some x) (w : World) :
    ∃ v, (part t c off).run P w = .ok v w ∧ VRel G x v := by
  obtain ⟨v, h1, h2⟩ := hr.get hx
  exact ⟨v, by simp [part, isAgg_run ht, hd, h1], h2⟩

theorem ok_field (c : At G σ w tm a) {o : Oper} {p : Operand} {x : XOpd} {s : TypeId} {n : Nat} {fs : Array Field} {f : Field} {i : TypeInfo} {d : TypeDesc} (ho : o.op = .field s p n) (hs : P.underlying s = some (.struct fs)) (hf : fs[n]? = some f) (hi : P.info? f.type = some i) (hd : P.underlying f.type = some d) (hp : OFit p x) {r : XRes} (hx : xop (.field f.offset i.size (TypeDesc.isAggB d) x) tm σ = some r) : OpOk P o a G σ w r := by
  have h1 := hp.rel c.rel
  simp only [xop] at hx
  split at hx <;> try (cases hx; done)
  rename_i cs e1
  generalize hu : a.eval p = u at h1
  rw [e1] at h1
  obtain ⟨c', rfl, hr⟩ := h1.of_agg
  cases hb : TypeDesc.isAggB d
  · simp only [hb, Bool.false_eq_true, if_false] at hx
    split at hx <;> try (cases hx; done)
    rename_i v hv
    cases hx
    obtain ⟨v', k1, k2⟩ := part_one (P := P) hr hd hb hv w
    exact OpOk.pure c.core (v' := v') (by simp [execOp, ho, hu, Instr.field, run_underlying hs, hf, asAgg, k1]) k2
  · simp only [hb, if_true] at hx
    split at hx <;> try (cases hx; done)
    rename_i hl
    cases hx
    obtain ⟨v', k1, k2⟩ := part_agg (P := P) hr hd hb hi hl w
    exact OpOk.pure c.core (v' := v') (by simp [execOp, ho, hu, Instr.field, run_underlying hs, hf, asAgg, k1]) k2

theorem asIntOf_run {k : IntKind} {n : Int} (w : World) : (asIntOf (.int k n)).run P w = .ok (k, n) w := rfl

theorem ok_index (c : At G σ w tm a) {o : Oper} {p q : Operand} {x y : XOpd} {t e : TypeId} {n : Nat} {i : TypeInfo} {d : TypeDesc} (ho : o.op = .index t p q) (ht : P.underlying t = some (.array n e)) (hi : P.info? e = some i) (hd : P.underlying e = some d) (hp : OFit p x) (hq : OFit q y) {r : XRes} (hx : xop (.index i.size n (TypeDesc.isAggB d) x y) tm σ = some r) : OpOk P o a G σ w r := by
  have h1 := hp.rel c.rel
  have h2 := hq.rel c.rel
  simp only [xop] at hx
  split at hx <;> try (cases hx; done)
  rename_i j hj
  obtain ⟨k, hk⟩ := idx_rel h2 hj
  split at hx <;> try (cases hx; done)
  rename_i hlt
  split at hx <;> try (cases hx; done)
  rename_i cs e1
  generalize hu : a.eval p = u at h1
  rw [e1] at h1
  obtain ⟨c', rfl, hr⟩ := h1.of_agg
  cases hb : TypeDesc.isAggB d
  · simp only [hb, Bool.false_eq_true, if_false] at hx
    split at hx <;> try (cases hx; done)
    rename_i v hv
    cases hx
    obtain ⟨v', k1, k2⟩ := part_one (P := P) hr hd hb hv w
    exact OpOk.pure c.core (v' := v') (by simp [execOp, ho, hu, hk, Instr.index, asIntOf_run, run_underlying ht, hlt, sizeOf_run hi, k1]) k2
  · simp only [hb, if_true] at hx
    split at hx <;> try (cases hx; done)
    rename_i hl
    cases hx
    obtain ⟨v', k1, k2⟩ := part_agg (P := P) hr hd hb hi hl w
    exact OpOk.pure c.core (v' := v') (by simp [execOp, ho, hu, hk, Instr.index, asIntOf_run, run_underlying ht, hlt, sizeOf_run hi, k1]) k2

theorem ok_indexS (c : At G σ w tm a) {o : Oper} {p q : Operand} {x y : XOpd} {t : TypeId} (ho : o.op = .index t p q) (ht : P.underlying t = some .string) (hp : OFit p x) (hq : OFit q y) {r : XRes} (hx : xop (.indexS x y) tm σ = some r) : OpOk P o a G σ w r := by
  have h1 := hp.rel c.rel
  have h2 := hq.rel c.rel
  simp only [xop] at hx
  split at hx <;> try (cases hx; done)
  rename_i j s hj e1
  obtain ⟨k, hk⟩ := idx_rel h2 hj
  split at hx <;> try (cases hx; done)
  rename_i u hs
  cases hx
  generalize hu : a.eval p = v at h1
  rw [e1] at h1
  cases h1
  refine OpOk.pure c.core (v' := .int .u8 u.toNat) ?_ (.int _ _)
  simp [execOp, ho, hu, hk, Instr.index, asIntOf_run, run_underlying ht, hs]

theorem ok_extract (c : At G σ w tm a) {o : Oper} {p : Operand} {x : XOpd} {n : Nat} (ho : o.op = .extract p n) (hp : OFit p x) {r : XRes} (hx : xop (.extract x n) tm σ = some r) : OpOk P o a G σ w r := by
  have h1 := hp.rel c.rel
  simp only [xop] at hx
  split at hx <;> try (cases hx; done)
  rename_i vs e1
  split at hx <;> try (cases hx; done)
  rename_i v hv
  cases hx
  generalize hu : a.eval p = u at h1
  rw [e1] at h1
  obtain ⟨c', rfl, hr⟩ := h1.of_tup
  obtain ⟨v', k1, k2⟩ := hr.get hv
  exact OpOk.pure c.core (v' := v') (by simp [execOp, ho, hu, Instr.extract, k1]) k2

theorem ok_iaddr (c : At G σ w tm a) {o : Oper} {p q : Operand} {x y : XOpd} {t e : TypeId} {i : TypeInfo} (ho : o.op = .indexAddr t p q) (ht : P.underlying t = some (.slice e)) (hi : P.info? e = some i) (hp : OFit p x) (hq : OFit q y) {r : XRes} (hx : xop (.iaddr i.size x y) tm σ = some r) : OpOk P o a G σ w r := by
  have h1 := (hp.rel c.rel).down
  have h2 := hq.rel c.rel
  simp only [xop] at hx
  split at hx <;> try (cases hx; done)
  rename_i j hj
  obtain ⟨k, hk⟩ := idx_rel h2 hj
  generalize hu : a.eval p = u at h1
  split at hx <;> try (cases hx; done)
  · rename_i s xs tok e1
    split at hx <;> try (cases hx; done)
    rename_i hs
    subst hs
    split at hx <;> try (cases hx; done)
    rename_i v hv
    cases hx
    rw [e1] at h1
    cases h1 with
    | list0 s a0 cap => simp at hv
    | list _ _ _ b o' cap f hcap hs hI hvv ht' =>
      have hlt : j < xs.length := (List.getElem?_eq_some_iff.1 hv).1
      refine OpOk.pure c.core (v' := .pointer (some ⟨b, o' + j * i.size, none⟩)) ?_ ?_
      · simp [execOp, ho, hu, hk, Instr.indexAt, asIntOf_run, run_underlying ht, hlt, sizeOf_run hi, addr_add]
      · exact .iptr v.cells 0 b (o' + j * i.size) (f j) (fun l cc hl => hI j v l cc hv hl) (fun l cc hl => hvv j v l cc hv hl)
  · rename_i s n off len e1
    split at hx <;> try (cases hx; done)
    rename_i hs
    obtain ⟨rfl, hlt⟩ := hs
    cases hx
    rw [e1] at h1
    cases h1 with
    | mlist _ _ _ _ b cap hn hcap =>
      refine OpOk.pure c.core (v' := .pointer (some ⟨b, off + j * i.size, none⟩)) ?_ (.ptr _ _ _ hn)
      simp [execOp, ho, hu, hk, Instr.indexAt, asIntOf_run, run_underlying ht, hlt, sizeOf_run hi, addr_add]

theorem ok_iaddrA (c : At G σ w tm a) {o : Oper} {p q : Operand} {x y : XOpd} {t e : TypeId} {n : Nat} {i : TypeInfo} (ho : o.op = .indexAddr t p q) (ht : P.underlying t = some (.array n e)) (hi : P.info? e = some i) (hp : OFit p x) (hq : OFit q y) {r : XRes} (hx : xop (.iaddrA i.size n x y) tm σ = some r) : OpOk P o a G σ w r := by
  have h1 := hp.rel c.rel
  have h2 := hq.rel c.rel
  simp only [xop] at hx
  split at hx <;> try (cases hx; done)
  rename_i j hj
  obtain ⟨k, hk⟩ := idx_rel h2 hj
  split at hx <;> try (cases hx; done)
  rename_i hlt
  generalize hu : a.eval p = u at h1
  split at hx <;> try (cases hx; done)
  · rename_i m off e1
    cases hx
    rw [e1] at h1
    cases h1 with
    | ptr _ _ b hn =>
      refine OpOk.pure c.core (v' := .pointer (some ⟨b, off + j * i.size, none⟩)) ?_ (.ptr _ _ _ hn)
      simp [execOp, ho, hu, hk, Instr.indexAt, Instr.sureAddr, asIntOf_run, run_underlying ht, hlt, sizeOf_run hi, addr_add]
  · rename_i cs off e1
    cases hx
    rw [e1] at h1
    cases h1 with
    | iptr _ _ b o' g hI hv =>
      refine OpOk.pure c.core (v' := .pointer (some ⟨b, o' + (off + j * i.size), none⟩)) ?_ (.iptr _ _ _ _ g hI hv)
      simp [execOp, ho, hu, hk, Instr.indexAt, Instr.sureAddr, asIntOf_run, run_underlying ht, hlt, sizeOf_run hi, addr_add, Nat.add_assoc]

theorem exec_builtin1 {o : Oper} {p : Operand} {t : TypeId} {cl : Call} {b : Builtin} (ho : o.op = .call cl) (hc : cl.callee = .builtin b) (ha : cl.args = #[p]) (hat : cl.argTypes = #[t]) (w : World) :
    ∃ cs, (execOp a.eval o).run P w = (builtin b #[t] o.type cs #[a.eval p]).run P w :=
  ⟨_, by simp [execOp, ho, resolve, hc, ha, hat, invoke]; rfl⟩

theorem ok_len (c : At G σ w tm a) {o : Oper} {p : Operand} {x : XOpd} {t e : TypeId} {cl : Call} (ho : o.op = .call cl) (hc : cl.callee = .builtin .len) (ha : cl.args = #[p]) (hat : cl.argTypes = #[t]) (ht : P.underlying t = some (.slice e)) (hp : OFit p x) {r : XRes} (hx : xop (.len x) tm σ = some r) : OpOk P o a G σ w r := by
  have h1 := (hp.rel c.rel).down
  have hexec : ∀ v, (Builtin.len_ #[t] o.type #[a.eval p]).run P w = .ok v w → (execOp a.eval o).run P w = .ok (.value v) w := fun v h => by
    obtain ⟨cs, hcs⟩ := exec_builtin1 (P := P) (a := a) ho hc ha hat w
    rw [hcs]; simp [builtin, h]
  simp only [xop] at hx
  obtain ⟨y, hx, rfl⟩ := map_some hx
  unfold xlen at hx
  generalize hu : a.eval p = u at h1 hexec
  split at hx <;> try (cases hx; done)
  · rename_i e1
    cases hx
    rw [e1] at h1; cases h1
    exact OpOk.pure c.core (v' := .int .i64 0) (hexec _ (by simp [Builtin.len_, run_underlying ht, goInt])) (.int _ _)
  · rename_i s xs tok e1
    cases hx
    rw [e1] at h1
    cases h1 with
    | list0 s a0 cap => exact OpOk.pure c.core (v' := .int .i64 0) (hexec _ (by simp [Builtin.len_, run_underlying ht, goInt])) (.int _ _)
    | list _ _ _ b o' cap f hcap hs hI hvv ht' => exact OpOk.pure c.core (v' := .int .i64 xs.length) (hexec _ (by simp [Builtin.len_, run_underlying ht, goInt])) (.int _ _)
  · rename_i s n off len e1
    cases hx
    rw [e1] at h1
    cases h1 with
    | mlist _ _ _ _ b cap hn hcap => exact OpOk.pure c.core (v' := .int .i64 len) (hexec _ (by simp [Builtin.len_, run_underlying ht, goInt])) (.int _ _)

theorem ok_capN (c : At G σ w tm a) {o : Oper} {p : Operand} {x : XOpd} {t e : TypeId} {cl : Call} (ho : o.op = .call cl) (hc : cl.callee = .builtin .cap) (ha : cl.args = #[p]) (hat : cl.argTypes = #[t]) (ht : P.underlying t = some (.slice e)) (hp : OFit p x) {r : XRes} (hx : xop (.capN x) tm σ = some r) : OpOk P o a G σ w r := by
  have h1 := hp.rel c.rel
  have hexec : ∀ v, (Builtin.cap_ #[t] o.type #[a.eval p]).run P w = .ok v w → (execOp a.eval o).run P w = .ok (.value v) w := fun v h => by
    obtain ⟨cs, hcs⟩ := exec_builtin1 (P := P) (a := a) ho hc ha hat w
    rw [hcs]; simp [builtin, h]
  simp only [xop] at hx
  generalize hu : a.eval p = u at h1 hexec
  split at hx <;> try (cases hx; done)
  rename_i e1
  cases hx
  rw [e1] at h1; cases h1
  exact OpOk.pure c.core (v' := .int .i64 0) (hexec _ (by simp [Builtin.cap_, run_underlying ht, goInt])) (.int _ _)
theorem ok_lenS (c : At G σ w tm a) {o : Oper} {p : Operand} {x : XOpd} {t : TypeId} {cl : Call} (ho : o.op = .call cl) (hc : cl.callee = .builtin .len) (ha : cl.args = #[p]) (hat : cl.argTypes = #[t]) (ht : P.underlying t = some .string) (hp : OFit p x) {r : XRes} (hx : xop (.lenS x) tm σ = some r) : OpOk P o a G σ w r := by
  have h1 := hp.rel c.rel
  simp only [xop] at hx
  generalize hu : a.eval p = u at h1
  split at hx <;> try (cases hx; done)
  rename_i s e1
  cases hx
  rw [e1] at h1; cases h1
  refine OpOk.pure c.core (v' := .int .i64 s.size) ?_ (.int _ _)
  obtain ⟨cs, hcs⟩ := exec_builtin1 (P := P) (a := a) ho hc ha hat w
  rw [hcs]
  simp [builtin, hu, Builtin.len_, run_underlying ht, goInt]

theorem ok_part (c : At G σ w tm a) {o : Oper} {p : Operand} {x y : XOpd} {t : TypeId} {cl : Call} {im : Bool} {k : FloatKind} (ho : o.op = .call cl) (hc : cl.callee = .builtin (if im then .imag else .real)) (ha : cl.args = #[p]) (hat : cl.argTypes = #[t]) (hp : OFit p x) {r : XRes} (hx : xop (.fl (if im then 3 else 2) k x y) tm σ = some r) : OpOk P o a G σ w r := by
  have h1 := hp.rel c.rel
  simp only [xop] at hx
  obtain ⟨v, hv, rfl⟩ := map_some hx
  generalize hu : a.eval p = u at h1
  generalize x.eval tm = X at *
  obtain ⟨cs, hcs⟩ := exec_builtin1 (P := P) (a := a) ho hc ha hat w
  cases im
  · simp only [Bool.false_eq_true, if_false] at hv hcs
    cases X <;> simp only [xfl] at hv <;> try (cases hv; done)
    cases hv
    cases h1
    refine OpOk.pure c.core ?_ (.flt _ _)
    have e : ∀ (ts : Array TypeId) (t : TypeId) (k : FloatKind) (a b : Nat), Builtin.real_ ts t #[.complex k a b] = pure (.float k a) := fun _ _ _ _ _ => rfl
    rw [hcs]; simp [builtin, hu, e]
  · simp only [if_true] at hv hcs
    cases X <;> simp only [xfl] at hv <;> try (cases hv; done)
    cases hv
    cases h1
    refine OpOk.pure c.core ?_ (.flt _ _)
    have e : ∀ (ts : Array TypeId) (t : TypeId) (k : FloatKind) (a b : Nat), Builtin.imag_ ts t #[.complex k a b] = pure (.float k b) := fun _ _ _ _ _ => rfl
    rw [hcs]; simp [builtin, hu, e]
theorem ok_cpx (c : At G σ w tm a) {o : Oper} {p q : Operand} {x y : XOpd} {cl : Call} {k : FloatKind} (ho : o.op = .call cl) (hc : cl.callee = .builtin .complex) (ha : cl.args = #[p, q]) (hp : OFit p x) (hq : OFit q y) {r : XRes} (hx : xop (.fl 1 k x y) tm σ = some r) : OpOk P o a G σ w r := by
  have h1 := hp.rel c.rel
  have h2 := hq.rel c.rel
  simp only [xop] at hx
  obtain ⟨v, hv, rfl⟩ := map_some hx
  generalize hu : a.eval p = u at h1
  generalize hu2 : a.eval q = u2 at h2
  generalize x.eval tm = X at *
  generalize y.eval tm = Y at *
  cases X <;> cases Y <;> simp only [xfl] at hv <;> try (cases hv; done)
  split at hv <;> try (cases hv; done)
  rename_i hk
  cases hv
  subst hk
  cases h1; cases h2
  refine OpOk.pure c.core ?_ (.cpx _ _ _)
  have e : ∀ (ts : Array TypeId) (t : TypeId) (k : FloatKind) (a b : Nat), Builtin.complex_ ts t #[.float k a, .float k b] = pure (.complex k a b) := fun _ _ k _ _ => if_pos rfl
  simp [execOp, ho, resolve, hc, ha, invoke, builtin, hu, hu2, e]

theorem xmm_rel {m : Bool} {x y z : AVal} {u v : Value} (hu : VRel G x u) (hv : VRel G y v) (h : xmm m x y = some z) : ∃ k, (if m then Builtin.max2 u v else Builtin.min2 u v).run P w = .ok k w ∧ VRel G z k := by
  unfold xmm at h
  split at h <;> try (cases h; done)
  cases h
  cases hu; cases hv
  cases m
  · exact ⟨_, by simp [Builtin.min2], .int _ _⟩
  · exact ⟨_, by simp [Builtin.max2], .int _ _⟩

theorem xext_rel {m : Bool} : ∀ (l : List AVal) (vs : List Value) (x : AVal) (u : Value) (z : AVal), VRel G x u → ARel G l vs.toArray → xext m x l = some z → ∃ k, (vs.foldlM (if m then Builtin.max2 else Builtin.min2) u).run P w = .ok k w ∧ VRel G z k := by
  intro l
  induction l with
  | nil =>
    intro vs x u z hu hr h
    have : vs = [] := by have := hr.len; simp at this; exact List.eq_nil_of_length_eq_zero this.symm
    subst this
    simp only [xext] at h; cases h
    exact ⟨u, by simp, hu⟩
  | cons y l ih =>
    intro vs x u z hu hr h
    match vs, hr with
    | [], hr => have := hr.len; simp at this
    | v :: vs, hr =>
      have hv : VRel G y v := hr.val 0 y v (by simp) (by simp)
      have hr' : ARel G l vs.toArray := ⟨by have := hr.len; simpa using this, fun j y u e1 e2 => hr.val (j + 1) y u (by simpa using e1) (by simpa using e2)⟩
      simp only [xext] at h
      split at h <;> try (cases h; done)
      rename_i z' hz
      obtain ⟨k, h1, h2⟩ := xmm_rel (P := P) (w := w) hu hv hz
      obtain ⟨k', h3, h4⟩ := ih vs z' k z h2 hr' h
      refine ⟨k', ?_, h4⟩
      cases m
      · simp only [Bool.false_eq_true, if_false] at h1 h3 ⊢
        simp [List.foldlM_cons, h1, h3]
      · simp only [if_true] at h1 h3 ⊢
        simp [List.foldlM_cons, h1, h3]

theorem ok_ext (c : At G σ w tm a) {o : Oper} {m : Bool} {p : Operand} {ps : List Operand} {x : XOpd} {xs : List XOpd} {cl : Call} (ho : o.op = .call cl) (hc : cl.callee = .builtin (if m then .max else .min)) (ha : cl.args = (p :: ps).toArray) (hp : OFit p x) (hps : LFit ps xs) {r : XRes} (hx : xop (.ext m x xs) tm σ = some r) : OpOk P o a G σ w r := by
  have h1 := hp.rel c.rel
  have h2 := hps.rel c.rel
  simp only [xop] at hx
  cases hb : xext m (x.eval tm) (xs.map (XOpd.eval tm)) with
  | none => rw [hb] at hx; cases hx
  | some v =>
    rw [hb] at hx; cases hx
    obtain ⟨k, h3, h4⟩ := xext_rel (P := P) (w := w) _ _ _ _ _ h1 h2 hb
    refine OpOk.pure c.core (v' := k) ?_ h4
    cases m
    · simp only [Bool.false_eq_true, if_false] at h3 hc
      simp [execOp, ho, resolve, hc, ha, invoke, builtin, Builtin.min_, h3]
    · simp only [if_true] at h3 hc
      simp [execOp, ho, resolve, hc, ha, invoke, builtin, Builtin.max_, h3]

theorem ARel.append {l m : List AVal} {x y : Array Value} (h : ARel G l x) (k : ARel G m y) : ARel G (l ++ m) (x ++ y) := by
  refine ⟨by simp [h.len, k.len], fun i u v h1 h2 => ?_⟩
  by_cases hi : i < l.length
  · rw [List.getElem?_append_left hi] at h1
    rw [Array.getElem?_append_left (by rw [← h.len]; exact hi)] at h2
    exact h.val i u v h1 h2
  · rw [List.getElem?_append_right (by omega)] at h1
    rw [Array.getElem?_append_right (by rw [← h.len]; omega), ← h.len] at h2
    exact k.val _ u v h1 h2

theorem ok_call (c : At G σ w tm a) {o : Oper} {p : Operand} {ps : List Operand} {x : XOpd} {xs : List XOpd} {cl : Call} (ho : o.op = .call cl) (hc : cl.callee = .value p) (ha : cl.args = ps.toArray) (hp : OFit p x) (hps : LFit ps xs) {r : XRes} (hx : xop (.call x xs) tm σ = some r) : OpOk P o a G σ w r := by
  have h1 := hp.rel c.rel
  have h2 := hps.rel c.rel
  simp only [xop] at hx
  split at hx <;> try (cases hx; done)
  · rename_i f first caps e1
    cases hx
    generalize hu : a.eval p = u at h1
    rw [e1] at h1
    cases h1 with
    | fn _ _ _ fs cs hf hcs vf vc =>
      refine ⟨fs ++ (ps.map a.eval).toArray ++ cs, ((⟨hf, vf⟩ : ARel G first fs).append h2).append ⟨hcs, vc⟩, fun fn k1 k2 k3 => ?_⟩
      have k2' : ¬ fn.name = "runtime.NumGoroutine" := by simpa using k2
      have k3' : ¬ fn.body = none := by intro h; simp [h] at k3
      simp [execOp, ho, resolve, hc, ha, hu, Deferred.ofValue, invoke, callFunc, k1, k2', k3']
  · rename_i n e1
    cases hx
    generalize hu : a.eval p = u at h1
    rw [e1] at h1
    cases h1 with
    | yld _ l hn =>
      refine ⟨(ps.map a.eval).toArray, l, h2, hn, ?_⟩
      simp [execOp, ho, resolve, hc, ha, hu, Deferred.ofValue, invoke]


theorem ok_callK (c : At G σ w tm a) {o : Oper} {f : FuncId} {ps : List Operand} {xs : List XOpd} {cl : Call} (ho : o.op = .call cl) (hc : cl.callee = .value (.func f)) (ha : cl.args = ps.toArray) (hps : LFit ps xs) {r : XRes} (hx : xop (.callK f xs) tm σ = some r) : OpOk P o a G σ w r := by
  have h2 := hps.rel c.rel
  simp only [xop] at hx
  cases hx
  refine ⟨(ps.map a.eval).toArray, h2, fun fn k1 k2 k3 => ?_⟩
  have k2' : ¬ fn.name = "runtime.NumGoroutine" := by simpa using k2
  have k3' : ¬ fn.body = none := by intro h; simp [h] at k3
  have hu : a.eval (.func f) = .func (.func f) #[] #[] := rfl
  simp [execOp, ho, resolve, hc, ha, hu, Deferred.ofValue, invoke, callFunc, k1, k2', k3']

/-- How values of a type are compared, by its text. -/
inductive SFit (P : Program) : Nat → TypeId → ES → Prop
  | int (h : Nat) (t : TypeId) (k : IntKind) : P.underlying t = some (.int k) → SFit P h t (.c 0)
  | bool (h : Nat) (t : TypeId) : P.underlying t = some .bool → SFit P h t (.c 1)
  | string (h : Nat) (t : TypeId) : P.underlying t = some .string → SFit P h t (.c 2)
  | struct (h : Nat) (t : TypeId) (fs : Array Field) (es : List (Nat × Nat × Bool × ES)) : P.underlying t = some (.struct fs) → P.stoodInHeld t = false → es.length = fs.toList.length →
      (∀ (i : Nat) (f : Field) (x : Nat × Nat × Bool × ES), fs.toList[i]? = some f → es[i]? = some x → f.name ≠ "_" ∧ ∃ (ti : TypeInfo) (d : TypeDesc), P.info? f.type = some ti ∧ P.underlying f.type = some d ∧ x.1 = f.offset ∧ x.2.1 = ti.size ∧ x.2.2.1 = TypeDesc.isAggB d) →
      (∀ (i : Nat) (f : Field) (x : Nat × Nat × Bool × ES), fs.toList[i]? = some f → es[i]? = some x → SFit P h f.type x.2.2.2) → SFit P (h + 1) t (.s es)
  | array (h : Nat) (t e : TypeId) (n : Nat) (i : TypeInfo) (d : TypeDesc) (x : ES) : P.underlying t = some (.array n e) → P.info? e = some i → P.underlying e = some d → SFit P h e x →
      SFit P (h + 1) t (.s ((List.range n).map fun k => (k * i.size, i.size, TypeDesc.isAggB d, x)))

theorem partOf_rel {cs : List AVal} {c : Array Value} (hr : ARel G cs c) {t : TypeId} {d : TypeDesc} {i : TypeInfo} (ht : P.underlying t = some d) (hi : P.info? t = some i) {off : Nat} {x : AVal} (hx : partOf off i.size (TypeDesc.isAggB d) cs = some x) (w : World) :
    ∃ v, (part t c off).run P w = .ok v w ∧ VRel G x v := by
  unfold partOf at hx
  cases hb : TypeDesc.isAggB d
  · simp only [hb, Bool.false_eq_true, if_false] at hx
    exact part_one hr ht hb hx w
  · simp only [hb, if_true] at hx
    split at hx <;> try (cases hx; done)
    rename_i hl
    cases hx
    exact part_agg hr ht hb hi hl w

theorem eqS_rel {h : Nat} {t : TypeId} {e : ES} (hf : SFit P h t e) : ∀ (x y : AVal) (u v : Value) (b : Bool) (d : Nat), VRel G x u → VRel G y v → xeqS e x y = some b → (Op.equalIn (d + h + 1) t u v).run P w = .ok b w := by
  induction hf with
  | int h t k ht =>
    intro x y u v b d hu hv hx
    simp only [xeqS] at hx
    unfold cellEq at hx
    split at hx <;> try (cases hx; done)
    all_goals (split at hx <;> try (cases hx; done))
    · rename_i hk
      obtain ⟨_, rfl⟩ := hk
      cases hx; cases hu; cases hv
      exact run_equalIn_int w _ t _ k _ _ ht
    all_goals (rename_i h0; omega)
  | bool h t ht =>
    intro x y u v b d hu hv hx
    simp only [xeqS] at hx
    unfold cellEq at hx
    split at hx <;> try (cases hx; done)
    all_goals (split at hx <;> try (cases hx; done))
    all_goals first
      | (rename_i h0; exact absurd h0.1 (by decide))
      | (rename_i h0; exact absurd h0 (by decide))
      | (cases hx; cases hu; cases hv; exact run_equalIn_bool' w _ t _ _ ht)
  | string h t ht =>
    intro x y u v b d hu hv hx
    simp only [xeqS] at hx
    unfold cellEq at hx
    split at hx <;> try (cases hx; done)
    all_goals (split at hx <;> try (cases hx; done))
    all_goals first
      | (rename_i h0; exact absurd h0.1 (by decide))
      | (rename_i h0; exact absurd h0 (by decide))
      | (cases hx; cases hu; cases hv; exact run_equalIn_string w _ t _ _ ht)
  | struct h t fs es ht hst hlen hinf hsf ih =>
    clear hsf
    intro x y u v b d hu hv hx
    cases x <;> try (simp [xeqS] at hx; done)
    cases y <;> try (simp [xeqS] at hx; done)
    rename_i xs ys
    simp only [xeqS] at hx
    obtain ⟨us, rfl, ru⟩ := hu.of_agg
    obtain ⟨vs, rfl, rv⟩ := hv.of_agg
    have hfs : P.fieldsOf t = fs := by simp [Program.fieldsOf, ht]
    rw [show d + (h + 1) + 1 = (d + h + 1) + 1 from by omega, run_equalIn_struct w (d + h + 1) t us vs (by rw [hfs]; exact ht) hst, hfs]
    generalize fs.toList = fl at *
    clear ht hfs
    induction fl generalizing es b with
    | nil =>
      have : es = [] := List.eq_nil_of_length_eq_zero (by simpa using hlen)
      subst this
      simp only [xeqF] at hx; cases hx
      simp [Op.eqFields]
    | cons f fl ih2 =>
      match es, hlen with
      | [], hlen => simp at hlen
      | (off, sz, agg, e) :: es, hlen =>
        obtain ⟨hname, ti, dd, k1, k2, k3, k4, k5⟩ := hinf 0 f (off, sz, agg, e) (by simp) (by simp)
        simp only at k3 k4 k5
        subst k3; subst k4; subst k5
        simp only [xeqF] at hx
        split at hx <;> try (cases hx; done)
        rename_i px py hpx hpy
        obtain ⟨pu, e1, e2⟩ := partOf_rel (P := P) ru k2 k1 hpx w
        obtain ⟨pv, e3, e4⟩ := partOf_rel (P := P) rv k2 k1 hpy w
        have hi := ih 0 f (f.offset, ti.size, TypeDesc.isAggB dd, e) (by simp) (by simp)
        simp only [Op.eqFields, hname, ne_eq, not_false_eq_true, if_true, Sem.run_bind, e1, e3, Result.andThen_ok]
        split at hx <;> try (cases hx; done)
        · rename_i hb
          have := hi px py pu pv true d e2 e4 hb
          simp only [this, Result.andThen_ok, Bool.not_true, Bool.false_eq_true, if_false]
          exact ih2 es b hx (by simpa using hlen) (fun i f' x' h1 h2 => hinf (i + 1) f' x' (by simpa using h1) (by simpa using h2)) (fun i f' x' h1 h2 => ih (i + 1) f' x' (by simpa using h1) (by simpa using h2))
        · rename_i hb
          cases hx
          have := hi px py pu pv false d e2 e4 hb
          simp [this]
  | array h t e n i de ex hu hi he hsf ih =>
    clear hsf
    intro x y u v b d hux hvy hx
    cases x <;> try (simp [xeqS] at hx; done)
    cases y <;> try (simp [xeqS] at hx; done)
    rename_i xs ys
    simp only [xeqS] at hx
    obtain ⟨us, rfl, ru⟩ := hux.of_agg
    obtain ⟨vs, rfl, rv⟩ := hvy.of_agg
    have hc : P.cellsOf e = i.size := by simp [Program.cellsOf, hi]
    rw [show d + (h + 1) + 1 = (d + h + 1) + 1 from by omega, run_equalIn_array w (d + h + 1) us vs hu hi, hc]
    generalize List.range n = is at hx ⊢
    clear hu
    induction is generalizing b with
    | nil =>
      simp only [List.map_nil, xeqF] at hx; cases hx
      simp [Op.eqItems]
    | cons k is ih2 =>
      simp only [List.map_cons, xeqF] at hx
      split at hx <;> try (cases hx; done)
      rename_i px py hpx hpy
      obtain ⟨pu, e1, e2⟩ := partOf_rel (P := P) ru he hi hpx w
      obtain ⟨pv, e3, e4⟩ := partOf_rel (P := P) rv he hi hpy w
      simp only [Op.eqItems, Sem.run_bind, e1, e3, Result.andThen_ok]
      split at hx <;> try (cases hx; done)
      · rename_i hb
        have := ih px py pu pv true d e2 e4 hb
        simp only [this, Result.andThen_ok, Bool.not_true, Bool.false_eq_true, if_false]
        exact ih2 b hx
      · rename_i hb
        cases hx
        have := ih px py pu pv false d e2 e4 hb
        simp [this]

theorem ok_eqA (c : At G σ w tm a) {o : Oper} {op : BinOp} {p q : Operand} {x y : XOpd} {t t2 : TypeId} {e : ES} {h : Nat} (hh : h ≤ 9999) (neg : Bool) (hop : op = if neg then .neq else .eql) (ho : o.op = .binOp op t p q t2) (hf : SFit P h t e) (hs : ∃ fs, e = .s fs) (hgd : P.eqGuardType P.depth t = false) (hp : OFit p x) (hq : OFit q y) {r : XRes} (hx : xop (.eqA neg e x y) tm σ = some r) : OpOk P o a G σ w r := by
  have h1 := hp.rel c.rel
  have h2 := hq.rel c.rel
  simp only [xop] at hx
  obtain ⟨b, hb, rfl⟩ := map_some hx
  obtain ⟨fs, rfl⟩ := hs
  cases hxe : x.eval tm <;> try (rw [hxe] at hb; simp [xeqS] at hb; done)
  cases hye : y.eval tm <;> try (rw [hxe, hye] at hb; simp [xeqS] at hb; done)
  rename_i xs ys
  rw [hxe] at h1 hb; rw [hye] at h2 hb
  obtain ⟨us, hu, ru⟩ := h1.of_agg
  obtain ⟨vs, hv, rv⟩ := h2.of_agg
  rw [hu] at h1; rw [hv] at h2
  have hrun := eqS_rel (w := w) hf (.agg xs) (.agg ys) (.agg us) (.agg vs) b (9999 - h) h1 h2 hb
  rw [show 9999 - h + h + 1 = 10000 from by omega] at hrun
  refine OpOk.pure c.core (v' := .bool (b != neg)) ?_ (.bool _)
  have hg := run_eqGuard_agg (P := P) w op t p q us vs hgd
  cases neg
  · simp only [Bool.false_eq_true, if_false] at hop
    subst hop
    simp [execOp, ho, hu, hv, hg, run_eql_struct, hrun]
  · simp only [if_true] at hop
    subst hop
    simp [execOp, ho, hu, hv, hg, run_neq_struct, hrun]
end
end Go.Proofs.Ytgijgcmcpgepaaa.Eng
