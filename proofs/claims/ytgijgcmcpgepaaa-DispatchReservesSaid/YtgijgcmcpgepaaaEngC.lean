/-
  ENGINE, C: operations on values without addresses.
-/
import Derived.Test.YtgijgcmcpgepaaaEngB
namespace Go.Proofs.Ytgijgcmcpgepaaa.Eng
set_option linter.unusedSimpArgs false
set_option linter.unusedVariables false

def look : List (Nat × NObj) → Mem
  | [], _ => none
  | (m, o) :: l, n => if Nat.beq m n then some o else look l n
def putL : List (Nat × NObj) → Nat → NObj → List (Nat × NObj)
  | [], n, o => [(n, o)]
  | (m, p) :: l, n, o => if Nat.beq m n then (n, o) :: l else (m, p) :: putL l n o

theorem look_put (l : List (Nat × NObj)) (n : Nat) (o : NObj) : look (putL l n o) = (look l).put n o := by
  funext k
  induction l with
  | nil => simp [putL, look, Mem.put]
  | cons p l ih =>
    obtain ⟨m, q⟩ := p
    simp only [putL]
    by_cases h : m = n
    · subst h
      simp only [Nat.beq_eq, if_true, look, Mem.put]
      by_cases hk : m = k <;> simp [hk]
    · simp only [Nat.beq_eq, h, if_false, look, ih, Mem.put]
      by_cases hk : m = k
      · subst hk; simp [Ne.symm h]
      · simp [hk]

structure Store where
  objs : List (Nat × NObj)
  next : Nat
  deriving Inhabited
def Store.get (σ : Store) : Mem := look σ.objs
def Store.put (σ : Store) (n : Nat) (o : NObj) : Store := ⟨putL σ.objs n o, σ.next⟩
def Store.new (σ : Store) (o : NObj) : Store := ⟨putL σ.objs σ.next o, σ.next + 1⟩
theorem Store.get_put (σ : Store) (n : Nat) (o : NObj) : (σ.put n o).get = σ.get.put n o := look_put _ _ _
theorem Store.get_new (σ : Store) (o : NObj) : (σ.new o).get = σ.get.put σ.next o := look_put _ _ _
def Store.empty : Store := ⟨[], 0⟩

mutual
def AVal.free : AVal → Bool
  | .list _ xs tok => freeL xs && tok.isNone
  | .mlist .. | .vlist .. | .ptr .. | .map .. | .yld .. => false
  | .iptr cs _ => freeL cs
  | .fn _ fs cs => freeL fs && freeL cs
  | .agg cs => freeL cs
  | .tup vs => freeL vs
  | _ => true
def freeL : List AVal → Bool
  | [] => true
  | x :: l => x.free && freeL l
end

inductive XRes where
  | val (v : AVal) (σ : Store)
  | enter (f : FuncId) (args : List AVal)
  | round (n : Nat) (args : List AVal)
  | enterK (f : FuncId) (args : List AVal)

/-- Are two keys the same? -/
def keyEq (kk : Nat) : AVal → AVal → Option Bool
  | .int k a, .int k' b => if kk = 0 ∧ k = k' then some (a == b) else none
  | .bool a, .bool b => if kk = 1 then some (a == b) else none
  | .str a, .str b => if kk = 2 then some (a == b) else none
  | _, _ => none
/-- Where a map has a key. -/
def xfind (kk : Nat) (k : AVal) : List (AVal × AVal) → Nat → Option (Option (Nat × AVal))
  | [], _ => some none
  | e :: l, i => match keyEq kk k e.1 with
    | some true => some (some (i, e.2))
    | some false => xfind kk k l (i + 1)
    | none => none
def xentries (σ : Store) : AVal → Option (List (AVal × AVal))
  | .nilm => some []
  | .map n => match σ.get n with
    | some (.oth (.map es)) => some es
    | _ => none
  | _ => none
/-- Which entries of so many are not yet seen. -/
def leftIdx (n : Nat) (seen : List Nat) : List Nat := (List.range n).filter fun i => !seen.any (Nat.beq i ·)
def keyOk : Nat → AVal → Bool
  | 0, .int .. => true
  | 1, .bool _ => true
  | 2, .str _ => true
  | _, _ => false

def xbits (op : BinOp) (k : IntKind) (x y : Int) : Option Int :=
  let a := BitVec.ofInt k.bits x
  let b := BitVec.ofInt k.bits y
  match op with
  | .and => some (k.wrap (a &&& b).toNat)
  | .or => some (k.wrap (a ||| b).toNat)
  | .xor => some (k.wrap (a ^^^ b).toNat)
  | .andNot => some (k.wrap (a &&& ~~~b).toNat)
  | _ => none

def xint (op : BinOp) (k : IntKind) (a b : Int) : Option AVal :=
  match op with
  | .add => some (.int k (k.wrap (a + b)))
  | .sub => some (.int k (k.wrap (a - b)))
  | .mul => some (.int k (k.wrap (a * b)))
  | .quo => if b = 0 then none else some (.int k (k.wrap (a.tdiv b)))
  | .rem => if b = 0 then none else some (.int k (a.tmod b))
  | .and | .or | .xor | .andNot => (xbits op k a b).map (.int k)
  | .eql => some (.bool (a == b))
  | .neq => some (.bool (a != b))
  | .lss => some (.bool (decide (a < b)))
  | .leq => some (.bool (decide (a ≤ b)))
  | .gtr => some (.bool (decide (b < a)))
  | .geq => some (.bool (decide (b ≤ a)))
  | .shl => if b < 0 then none else some (.int k (k.wrap (a * 2 ^ (min b.toNat k.bits))))
  | .shr => if b < 0 then none else some (.int k (a.fdiv (2 ^ (min b.toNat k.bits))))

def xstr (op : BinOp) (a b : ByteArray) : Option AVal :=
  match op with
  | .add => if a.size + b.size ≤ 1000000000000 then some (.str (a ++ b)) else none
  | .eql => some (.bool (a.toList == b.toList))
  | .neq => some (.bool (!(a.toList == b.toList)))
  | .lss => some (.bool (Op.bytesLess a.toList b.toList))
  | .leq => some (.bool (Op.bytesLess a.toList b.toList || a.toList == b.toList))
  | .gtr => some (.bool (!(Op.bytesLess a.toList b.toList || a.toList == b.toList)))
  | .geq => some (.bool (!(Op.bytesLess a.toList b.toList)))
  | _ => none

def xflt (op : BinOp) (k : FloatKind) (a b : Nat) : Option AVal :=
  match op with
  | .add => (k.format.add a b).map (.flt k)
  | .sub => (k.format.sub a b).map (.flt k)
  | .mul => (k.format.mul a b).map (.flt k)
  | .quo => (k.format.div a b).map (.flt k)
  | .eql => some (.bool (k.format.order a b == some .eq))
  | .neq => some (.bool (k.format.order a b != some .eq))
  | .lss => some (.bool (k.format.order a b == some .lt))
  | .leq => some (.bool (k.format.order a b == some .lt || k.format.order a b == some .eq))
  | .gtr => some (.bool (k.format.order a b == some .gt))
  | .geq => some (.bool (k.format.order a b == some .gt || k.format.order a b == some .eq))
  | _ => none
/-- The two parts of a product. -/
def xprod (F : Ieee.Format) (a b c d : Nat) : Option (Nat × Nat) :=
  match F.mul a c, F.mul b d, F.mul a d, F.mul b c with
  | some ac, some bd, some ad, some bc => match F.sub ac bd, F.add ad bc with
    | some e, some f => some (e, f)
    | _, _ => none
  | _, _, _, _ => none
def xcpx (op : BinOp) (k : FloatKind) (a b c d : Nat) : Option AVal :=
  match op with
  | .add => match k.format.add a c, k.format.add b d with
    | some e, some f => some (.cpx k e f)
    | _, _ => none
  | .sub => match k.format.sub a c, k.format.sub b d with
    | some e, some f => some (.cpx k e f)
    | _, _ => none
  | .mul => if k = .f64 then (match xprod FloatKind.f64.format a b c d with
    | some (e, f) => some (.cpx .f64 e f)
    | none => none) else none
  | .eql => some (.bool (k.format.order a c == some .eq && k.format.order b d == some .eq))
  | .neq => some (.bool (!(k.format.order a c == some .eq && k.format.order b d == some .eq)))
  | _ => none
/-- Numbers become floats, floats complex numbers, and back. -/
def xfl (n : Nat) (k : FloatKind) (x y : AVal) : Option AVal :=
  match n, x, y with
  | 0, .int _ m, _ => some (.flt k (k.nearest m))
  | 1, .flt k1 a, .flt k2 b => if k1 = k2 then some (.cpx k1 a b) else none
  | 2, .cpx k1 a _, _ => some (.flt k1 a)
  | 3, .cpx k1 _ b, _ => some (.flt k1 b)
  | 4, .flt k1 a, _ => match (k1.decode a).toInt .zero with
    | some m => if IntKind.i64.min ≤ m ∧ m ≤ IntKind.i64.max then some (.int .i64 m) else none
    | none => none
  | _, _, _ => none

def xbin (op : BinOp) : AVal → AVal → Option AVal
  | .int k a, .int k' b => if k = k' then xint op k a b else none
  | .flt k a, .flt k' b => if k = k' then xflt op k a b else none
  | .cpx k a b, .cpx k' c d => if k = k' then xcpx op k a b c d else none
  | .str a, .str b => xstr op a b
  | _, _ => none

def xun (op : UnOp) : AVal → Option AVal
  | .int k n => match op with
    | .neg => some (.int k (k.wrap (0 - n)))
    | _ => none
  | .bool b => match op with
    | .not => some (.bool (!b))
    | _ => none
  | .flt k n => match op with
    | .neg => some (.flt k (Op.negFloat k n))
    | _ => none
  | .cpx k n m => match op with
    | .neg => some (.cpx k (Op.negFloat k n) (Op.negFloat k m))
    | _ => none
  | _ => none

def cellEq (n : Nat) : AVal → AVal → Option Bool
  | .int k a, .int k' b => if n = 0 ∧ k = k' then some (a == b) else none
  | .bool a, .bool b => if n = 1 then some (a == b) else none
  | .str a, .str b => if n = 2 then some (a.toList == b.toList) else none
  | _, _ => none
def partOf (off sz : Nat) (agg : Bool) (cs : List AVal) : Option AVal :=
  if agg then (if off + sz ≤ cs.length then some (.agg ((cs.drop off).take sz)) else none) else cs[off]?
mutual
def xeqS : ES → AVal → AVal → Option Bool
  | .c n, x, y => cellEq n x y
  | .s fs, .agg xs, .agg ys => xeqF fs xs ys
  | _, _, _ => none
def xeqF : List (Nat × Nat × Bool × ES) → List AVal → List AVal → Option Bool
  | [], _, _ => some true
  | (off, sz, agg, e) :: fs, xs, ys => match partOf off sz agg xs, partOf off sz agg ys with
    | some x, some y => match xeqS e x y with
      | some true => xeqF fs xs ys
      | some false => some false
      | none => none
    | _, _ => none
end

/-- Are two cells the same, to the bit? -/
def sameCell : AVal → AVal → Bool
  | .int k a, .int k' b => decide (k = k') && (a == b)
  | .bool a, .bool b => a == b
  | .str a, .str b => a == b
  | _, _ => false
def sameCs : List AVal → List AVal → Bool
  | [], [] => true
  | x :: l, y :: m => sameCell x y && sameCs l m
  | _, _ => false
def sameAgg : AVal → AVal → Bool
  | .agg xs, .agg ys => sameCs xs ys
  | _, _ => false
def keyEqS (e : ES) (k k' : AVal) : Option Bool := match xeqS e k k' with
  | some true => if sameAgg k' k then some true else none
  | some false => some false
  | none => none
def xfindS (e : ES) (k : AVal) : List (AVal × AVal) → Nat → Option (Option (Nat × AVal))
  | [], _ => some none
  | p :: l, i => match keyEqS e k p.1 with
    | some true => some (some (i, p.2))
    | some false => xfindS e k l (i + 1)
    | none => none
def keyOkS (e : ES) (k : AVal) : Bool := match xeqS e k k with
  | some true => true
  | _ => false

/-- Cells are laid into a row. -/
def setR : List AVal → Nat → List AVal → List AVal
  | cs, _, [] => cs
  | cs, i, x :: l => setR (cs.set i x) (i + 1) l
def fillR : List AVal → List (Nat × Nat × AVal) → Option (List AVal)
  | cs, [] => some cs
  | cs, (off, sz, v) :: l => if v.cells.length = sz ∧ off + sz ≤ cs.length then fillR (setR cs off v.cells) l else none

def AVal.one : AVal → Bool
  | .agg _ | .tup _ => false
  | _ => true

/-- A value of some cells. -/
def mkV (agg : Bool) (cs : List AVal) : Option AVal :=
  if agg then some (.agg cs) else
  match cs with
  | [c] => if c.one then some c else none
  | _ => none
/-- A row as its elements. -/
def chunks (agg : Bool) (s : Nat) : Nat → List AVal → Option (List AVal)
  | 0, _ => some []
  | n + 1, cs => match mkV agg (cs.take s) with
    | none => none
    | some v => match chunks agg s n (cs.drop s) with
      | none => none
      | some l => some (v :: l)

def xload (σ : Store) : AVal → Option (List AVal × Nat)
  | .ptr n off => match σ.get n with
    | some (.cells cs) => some (cs, off)
    | some (.ro cs) => some (cs, off)
    | _ => none
  | .iptr cs off => some (cs, off)
  | _ => none

def xcaps (σ : Store) : List AVal → List AVal × Store
  | [] => ([], σ)
  | x :: l =>
    let r := xcaps σ l
    match x with
    | .ptr n 0 => match r.2.get n with
      | some (.cells cs) => if freeL cs then (.iptr cs 0 :: r.1, r.2.put n (.ro cs)) else (x :: r.1, r.2)
      | some (.ro cs) => if freeL cs then (.iptr cs 0 :: r.1, r.2) else (x :: r.1, r.2)
      | _ => (x :: r.1, r.2)
    | _ => (x :: r.1, r.2)

def xmm (isMax : Bool) : AVal → AVal → Option AVal
  | .int k x, .int _ y => some (.int k (if isMax then (if x < y then y else x) else (if y < x then y else x)))
  | _, _ => none
def xext (isMax : Bool) : AVal → List AVal → Option AVal
  | x, [] => some x
  | x, y :: l => match xmm isMax x y with
    | some z => xext isMax z l
    | none => none

def AVal.isSlice : AVal → Bool
  | .nils | .list .. | .mlist .. | .vlist .. => true
  | _ => false
def ones (l : List AVal) : Bool := l.all fun y => y.cells.all AVal.one

def xappendM (σ : Store) (e s bytes : Nat) (x : AVal) (ys : List AVal) : Option (AVal × Store) :=
  match ys with
  | [] => if x.isSlice then some (x, σ) else none
  | _ :: _ => match x with
    | .nils => if ys.length * bytes ≤ 1000000000000 ∧ ys.length ≤ 1000000000000 then some (.list s ys (some σ.next), σ.new (.tok e s ys.length)) else none
    | .list s2 xs (some k) =>
      if s2 = s ∧ (xs.length + ys.length) * bytes ≤ 1000000000000 ∧ xs.length + ys.length ≤ 1000000000000 then
        match σ.get k with
        | some (.tok e' s' len) => if e' = e ∧ s' = s ∧ len = xs.length then some (.list s (xs ++ ys) (some k), σ.put k (.tok e s (xs.length + ys.length))) else none
        | _ => none
      else none
    | _ => none
def xappend (σ : Store) (e s bytes : Nat) (x y : AVal) : Option (AVal × Store) :=
  match y with
  | .mlist s' n off len => match σ.get n with
    | some (.cells cs) => if s' = s ∧ 0 < s ∧ off + len * s ≤ cs.length then (match chunks (s != 1) s len (cs.drop off) with
      | some ys => if ones ys then xappendM σ e s bytes x ys else none
      | none => none) else none
    | _ => none
  | .nils => if x.isSlice then some (x, σ) else none
  | .list s' ys _ =>
    if s' = s ∧ 0 < s ∧ ones ys then
      match ys with
      | [] => if x.isSlice then some (x, σ) else none
      | _ :: _ => match x with
        | .nils => if ys.length * bytes ≤ 1000000000000 ∧ ys.length ≤ 1000000000000 then some (.list s ys (some σ.next), σ.new (.tok e s ys.length)) else none
        | .list s2 xs (some k) =>
          if s2 = s ∧ (xs.length + ys.length) * bytes ≤ 1000000000000 ∧ xs.length + ys.length ≤ 1000000000000 then
            match σ.get k with
            | some (.tok e' s' len) => if e' = e ∧ s' = s ∧ len = xs.length then some (.list s (xs ++ ys) (some k), σ.put k (.tok e s (xs.length + ys.length))) else none
            | _ => none
          else none
        | _ => none
    else none
  | _ => none

/-- An index, as it must be. -/
def idx : AVal → Option Nat
  | .int _ (.ofNat n) => some n
  | _ => none

theorem map_some {α β : Type} {f : α → β} {o : Option α} {b : β} (h : o.map f = some b) : ∃ a, o = some a ∧ f a = b := by
  cases o with
  | none => cases h
  | some a => cases h; exact ⟨a, rfl, rfl⟩
def xmovf (σ : Store) : AVal → Option (AVal × Store)
  | .mlist s n off len => match σ.get n with
    | some (.cells cs) => if 0 < s ∧ off + len * s ≤ cs.length ∧ freeL cs then (match chunks (s != 1) s len (cs.drop off) with
      | some xs => some (.list s xs none, σ.put n (.ro cs))
      | none => none) else none
    | _ => none
  | v => some (v, σ)
def AVal.isM : AVal → Bool
  | .mlist .. => true
  | _ => false
theorem xmovf_of {σ : Store} {v : AVal} (h : v.isM = false) : xmovf σ v = some (v, σ) := by
  cases v <;> first | rfl | cases h
def xlen : AVal → Option AVal
  | .nils => some (.int .i64 0)
  | .list _ xs _ => some (.int .i64 xs.length)
  | .mlist _ _ _ n => some (.int .i64 n)
  | _ => none
def madeL (zero : List AVal) (n : Nat) : List AVal := (List.range n).map fun i => zero.getD (i % zero.length) aundef
/-- A list that is not empty grows; a row that has room. -/
def xappendW (σ : Store) (e s bytes : Nat) (x : AVal) (ys : List AVal) : Option (AVal × Store) :=
  match ys with
  | [] => if x.isSlice then some (x, σ) else none
  | _ :: _ => match x with
    | .nils => if ys.length * bytes ≤ 1000000000000 ∧ ys.length ≤ 1000000000000 then some (.vlist e s σ.next ys.length, σ.new (.cells (ys.flatMap AVal.cells))) else none
    | .list s2 [] (some k) => if s2 = s ∧ ys.length * bytes ≤ 1000000000000 ∧ ys.length ≤ 1000000000000 then match σ.get k with
        | some (.tok e' s' 0) => if e' = e ∧ s' = s then some (.vlist e s σ.next ys.length, (σ.put k .gone).new (.cells (ys.flatMap AVal.cells))) else none
        | _ => none
      else none
    | .vlist e2 s2 n len => if e2 = e ∧ s2 = s ∧ (len + ys.length) * bytes ≤ 1000000000000 ∧ len + ys.length ≤ 1000000000000 then match σ.get n with
        | some (.cells cs) => if cs.length = len * s then some (.vlist e s σ.next (len + ys.length), (σ.put n .gone).new (.cells (cs ++ ys.flatMap AVal.cells)))
          else if len * s ≤ cs.length then some (.vlist e s σ.next (len + ys.length), (σ.put n .gone).new (.cells (cs.take (len * s) ++ ys.flatMap AVal.cells))) else none
        | _ => none
      else none
    | _ => none
def xappendV (σ : Store) (e s bytes : Nat) (x y : AVal) : Option (AVal × Store) :=
  match x with
  | .list _ (_ :: _) _ => xappend σ e s bytes x y
  | _ => match y.down with
    | .mlist s' n off len => match σ.get n with
      | some (.cells cs) => if s' = s ∧ 0 < s ∧ off + len * s ≤ cs.length then (match chunks (s != 1) s len (cs.drop off) with
        | some ys => if ones ys then xappendW σ e s bytes x ys else none
        | none => none) else none
      | _ => none
    | .nils => if x.isSlice then some (x, σ) else none
    | .list s' ys _ => if s' = s ∧ 0 < s ∧ ones ys then xappendW σ e s bytes x ys else none
    | _ => none
def isFull (σ : Store) (tok : Option Nat) (l : Nat) : Bool := match tok with
  | none => false
  | some k => match σ.get (k + 1) with
    | some (.full k' n) => Nat.beq k' k && Nat.beq n l
    | _ => false
def xop (o : XOp) (tm : List AVal) (σ : Store) : Option XRes :=
  let ev := XOpd.eval tm
  let pv (v : Option AVal) : Option XRes := v.map fun v => .val v σ
  match o with
  | .mov x => some (.val (ev x) σ)
  | .pick c a b => match ev c with
    | .bool true => some (.val (ev a) σ)
    | .bool false => some (.val (ev b) σ)
    | _ => none
  | .new _ cs => some (.val (.ptr σ.next 0) (σ.new (.cells cs)))
  | .box _ x => some (.val (.ptr σ.next 0) (σ.new (.cells (ev x).cells)))
  | .build zero parts => match fillR zero (parts.map fun p => (p.1, p.2.1, ev p.2.2)) with
    | some cs => some (.val (.agg cs) σ)
    | none => none
  | .buildSlice e s len agg zero parts => match fillR zero (parts.map fun p => (p.1, p.2.1, ev p.2.2)) with
    | some cs => if cs.length = len * s ∧ 0 < s then (match chunks agg s len cs with
      | some xs => some (.val (.list s xs (some σ.next)) (σ.new (.tok e s len)))
      | none => none) else none
    | none => none
  | .load1 x => match xload σ (ev x) with
    | some (cs, off) => match cs[off]? with
      | some v => some (.val v σ)
      | none => none
    | none => none
  | .loadn n x => match xload σ (ev x) with
    | some (cs, off) => if off + n ≤ cs.length then some (.val (.agg ((cs.drop off).take n)) σ) else none
    | none => none
  | .store n a x => match ev a with
    | .ptr m off => match σ.get m with
      | some (.cells cs) =>
        let l := (ev x).cells
        if l.length = n ∧ l.all AVal.one ∧ off + n ≤ cs.length then some (.val aundef (σ.put m (.cells (setR cs off l)))) else none
      | _ => none
    | _ => none
  | .nilchk x => match ev x with
    | .ptr n off => some (.val (.ptr n off) σ)
    | .iptr cs off => some (.val (.iptr cs off) σ)
    | .fn f a b => some (.val (.fn f a b) σ)
    | _ => none
  | .bin op x y => pv (xbin op (ev x) (ev y))
  | .eqb neg x y => match ev x, ev y with
    | .bool a, .bool b => some (.val (.bool (if neg then !(a == b) else a == b)) σ)
    | _, _ => none
  | .eqA neg e x y => (xeqS e (ev x) (ev y)).map fun b => .val (.bool (b != neg)) σ
  | .un op x => pv (xun op (ev x))
  | .conv k x => match ev x with
    | .int _ n => some (.val (.int k (k.wrap n)) σ)
    | _ => none
  | .fn frz f first caps =>
    if frz then
      let r := xcaps σ (caps.map ev)
      some (.val (.fn f (first.map ev) r.1) r.2)
    else some (.val (.fn f (first.map ev) (caps.map ev)) σ)
  | .slice s x lo hi => match (ev x).down with
    | .list s' xs tok =>
      match (match lo with | none => some 0 | some l => idx (ev l)), (match hi with | none => some xs.length | some h => idx (ev h)) with
      | some l, some h => if s' = s ∧ l ≤ h ∧ h ≤ xs.length then some (.val (.list s ((xs.take h).drop l) (if l = 0 ∧ h = xs.length then tok else none)) σ) else none
      | _, _ => none
    | .nils => match (match lo with | none => some 0 | some l => idx (ev l)), (match hi with | none => some 0 | some h => idx (ev h)) with
      | some 0, some 0 => some (.val .nils σ)
      | _, _ => none
    | .mlist s' n off len => match (match lo with | none => some 0 | some l => idx (ev l)), (match hi with | none => some len | some h => idx (ev h)) with
      | some l, some h => if l ≤ h ∧ h ≤ len then (if l = 0 then some (.val (.mlist s' n off h) σ) else if l < len then some (.val (.mlist s' n (off + l * s) (h - l)) σ) else some (.val (.list s [] none) σ)) else none
      | _, _ => none
    | _ => none
  | .sliceArr s n agg x => match ev x with
    | .iptr cs off => if off + n * s = cs.length ∧ 0 < s then (match chunks agg s n (cs.drop off) with
      | some xs => some (.val (.list s xs none) σ)
      | none => none) else none
    | .ptr m off => some (.val (.mlist s m off n) σ)
    | _ => none
  | .faddr d x => match ev x with
    | .ptr n off => some (.val (.ptr n (off + d)) σ)
    | .iptr cs off => some (.val (.iptr cs (off + d)) σ)
    | _ => none
  | .field off sz agg x => match ev x with
    | .agg cs => if agg then (if off + sz ≤ cs.length then some (.val (.agg ((cs.drop off).take sz)) σ) else none) else (match cs[off]? with
      | some v => some (.val v σ)
      | none => none)
    | _ => none
  | .iaddr s x i => match idx (ev i) with
    | none => none
    | some i => match (ev x).down with
      | .list s' xs _ => if s' = s then (match xs[i]? with
        | some v => some (.val (.iptr v.cells 0) σ)
        | none => none) else none
      | .mlist s' n off len => if s' = s ∧ i < len then some (.val (.ptr n (off + i * s)) σ) else none
      | _ => none
  | .iaddrA s len x i => match idx (ev i) with
    | none => none
    | some i => if i < len then (match ev x with
      | .ptr n off => some (.val (.ptr n (off + i * s)) σ)
      | .iptr cs off => some (.val (.iptr cs (off + i * s)) σ)
      | _ => none) else none
  | .index s len agg x i => match idx (ev i) with
    | none => none
    | some i => if i < len then (match ev x with
      | .agg cs => if agg then (if i * s + s ≤ cs.length then some (.val (.agg ((cs.drop (i * s)).take s)) σ) else none) else (match cs[i * s]? with
        | some v => some (.val v σ)
        | none => none)
      | _ => none) else none
  | .indexS x i => match idx (ev i), ev x with
    | some i, .str b => match b[i]? with
      | some u => some (.val (.int .u8 u.toNat) σ)
      | none => none
    | _, _ => none
  | .extract x i => match ev x with
    | .tup vs => match vs[i]? with
      | some v => some (.val v σ)
      | none => none
    | _ => none
  | .call f args => match ev f with
    | .fn f first caps => some (.enter f (first ++ args.map ev ++ caps))
    | .yld n => some (.round n (args.map ev))
    | _ => none
  | .len x => pv (xlen (ev x).down)
  | .lenS x => match ev x with
    | .str s => some (.val (.int .i64 s.size) σ)
    | _ => none
  | .appendV e s bytes x y => match xappendV σ e s bytes (ev x) (ev y) with
    | some (v, σ') => some (.val v σ')
    | none => none
  | .append e s bytes x y => match xappend σ e s bytes (ev x) (ev y) with
    | some (v, σ') => some (.val v σ')
    | none => none
  | .ext isMax x xs => pv (xext isMax (ev x) (xs.map ev))
  | .movf x => (xmovf σ (ev x).down).map fun r => .val r.1 r.2
  | .makeS _ s bytes zero x y => match idx (ev x), idx (ev y) with
    | some n, some m => if n = m ∧ bytes * n ≤ 281474976710656 ∧ n ≤ 9223372036854775807 then some (.val (.mlist s σ.next 0 n) (σ.new (.cells (madeL zero (n * s))))) else none
    | _, _ => none
  | .clip e s x h m => match idx (ev h), idx (ev m) with
    | some 0, some 0 => (match (ev x).down with
      | .nils => some (.val .nils σ)
      | .list .. | .mlist .. => some (.val (.list s [] (some σ.next)) (σ.new (.tok e s 0)))
      | _ => none)
    | _, _ => none
  | .copy s x y => match (ev x).down with
    | .mlist _ n off len => match σ.get n with
      | some (.cells cs) => if 0 < s ∧ off + len * s ≤ cs.length then (match (ev y).down with
        | .nils => some (.val (.int .i64 0) σ)
        | .list s2 ys _ => if s2 = s ∧ ones ys then some (.val (.int .i64 (min ys.length len : Nat)) (σ.put n (.cells (setR cs off ((ys.take len).flatMap AVal.cells))))) else none
        | .mlist _ n2 off2 len2 => match σ.get n2 with
          | some (.cells cs2) => if off2 + len2 * s ≤ cs2.length ∧ ((cs2.drop off2).take (min len2 len * s)).all AVal.one then some (.val (.int .i64 (min len2 len : Nat)) (σ.put n (.cells (setR cs off ((cs2.drop off2).take (min len2 len * s)))))) else none
          | _ => none
        | _ => none) else none
      | _ => none
    | _ => none
  | .mkmap => some (.val (.map σ.next) (σ.new (.oth (.map []))))
  | .lookup kk zero ok x k => match xentries σ (ev x) with
    | some es => if keyOk kk (ev k) then (match xfind kk (ev k) es 0 with
      | some (some (_, v)) => some (.val (if ok then .tup [v, .bool true] else v) σ)
      | some none => some (.val (if ok then .tup [zero, .bool false] else zero) σ)
      | none => none) else none
    | none => none
  | .mapupd kk m k v => match ev m with
    | .map n => match σ.get n with
      | some (.oth (.map es)) => if keyOk kk (ev k) then (match xfind kk (ev k) es 0 with
        | some (some (i, _)) => some (.val aundef (σ.put n (.oth (.map (es.set i (ev k, ev v))))))
        | some none => some (.val aundef (σ.put n (.oth (.map (es ++ [(ev k, ev v)])))))
        | none => none) else none
      | _ => none
    | _ => none
  | .lenM x => match xentries σ (ev x) with
    | some es => some (.val (.int .i64 es.length) σ)
    | none => none
  | .lookupS e zero ok x k => match xentries σ (ev x) with
    | some es => if keyOkS e (ev k) then (match xfindS e (ev k) es 0 with
      | some (some (_, v)) => some (.val (if ok then .tup [v, .bool true] else v) σ)
      | some none => some (.val (if ok then .tup [zero, .bool false] else zero) σ)
      | none => none) else none
    | none => none
  | .mapupdS e m k v => match ev m with
    | .map n => match σ.get n with
      | some (.oth (.map es)) => if keyOkS e (ev k) then (match xfindS e (ev k) es 0 with
        | some (some (i, _)) => some (.val aundef (σ.put n (.oth (.map (es.set i (ev k, ev v))))))
        | some none => some (.val aundef (σ.put n (.oth (.map (es ++ [(ev k, ev v)])))))
        | none => none) else none
      | _ => none
    | _ => none
  | .mkiter x => match ev x with
    | .nilm => some (.val (.ptr σ.next 0) (σ.new (.oth (.iter none 0 []))))
    | .map n => match σ.get n with
      | some (.oth (.map es)) => some (.val (.ptr σ.next 0) (σ.new (.oth (.iter (some n) es.length []))))
      | _ => none
    | _ => none
  | .nextM x => match ev x with
    | .ptr r 0 => match σ.get r with
      | some (.oth (.iter none _ _)) => some (.val (.tup [.bool false]) σ)
      | some (.oth (.iter (some m) since seen)) => match σ.get m with
        | some (.oth (.map es)) => if es.length = since then (match leftIdx es.length seen with
          | [] => some (.val (.tup [.bool false]) σ)
          | [i] => (match es[i]? with
            | some p => some (.val (.tup [.bool true, p.1, p.2]) (σ.put r (.oth (.iter (some m) since (seen ++ [i])))))
            | none => none)
          | _ => none) else none
        | _ => none
      | _ => none
    | _ => none
  | .entryM x => match ev x with
    | .ptr r 0 => match σ.get r with
      | some (.oth (.iter (some m) since seen)) => match σ.get m, seen.getLast? with
        | some (.oth (.map es)), some i => if es.length = since then (match es[i]? with
            | some p => some (.val (.tup [p.1, p.2]) σ)
            | none => none) else none
        | _, _ => none
      | _ => none
    | _ => none
  | .callK f args => some (.enterK f (args.map ev))
  | .isnilS neg x => match (ev x).down with
    | .nils => some (.val (.bool (!neg)) σ)
    | .list .. | .mlist .. => some (.val (.bool neg) σ)
    | _ => none
  | .buildSliceF e s len agg zero parts => match fillR zero (parts.map fun p => (p.1, p.2.1, ev p.2.2)) with
    | some cs => if cs.length = len * s ∧ 0 < s then (match chunks agg s len cs with
      | some xs => some (.val (.list s xs (some σ.next)) ((σ.new (.tok e s len)).new (.full σ.next len)))
      | none => none) else none
    | none => none
  | .sliceF e s x lo => match ev x, idx (ev lo) with
    | .list s' xs tok, some l => if s' = s ∧ l ≤ xs.length then (if l = xs.length ∧ isFull σ tok l then some (.val (.list s [] (some σ.next)) (σ.new (.tok e s 0)))
      else some (.val (.list s ((xs.take xs.length).drop l) (if l = 0 ∧ xs.length = xs.length then tok else none)) σ)) else none
    | _, _ => none
  | .sliceV s x hi => match ev x, idx (ev hi) with
    | .vlist e s' n len, some h => if s' = s ∧ h ≤ len then some (.val (.vlist e s n h) σ) else none
    | .list s' xs tok, some h => if s' = s ∧ h ≤ xs.length then some (.val (.list s (xs.take h) (if h = xs.length then tok else none)) σ) else none
    | .nils, some 0 => some (.val .nils σ)
    | .mlist s' n off len, some h => if h ≤ len then some (.val (.mlist s' n off h) σ) else none
    | _, _ => none
  | .capN x => match ev x with
    | .nils => some (.val (.int .i64 0) σ)
    | _ => none
  | .appendZ e s bytes zero x n => match ev x, idx (ev n) with
    | .nils, some n => if 0 < n ∧ 0 < s ∧ n * bytes ≤ 281474976710656 ∧ n ≤ 9223372036854775807 then some (.val (.vlist e s σ.next n) (σ.new (.cells (madeL zero (n * s))))) else none
    | _, _ => none
  | .fl n k x y => pv (xfl n k (ev x) (ev y))
  | .isnil neg x => match ev x with
    | .nili => some (.val (.bool (!neg)) σ)
    | .errv => some (.val (.bool neg) σ)
    | _ => none
end Go.Proofs.Ytgijgcmcpgepaaa.Eng
