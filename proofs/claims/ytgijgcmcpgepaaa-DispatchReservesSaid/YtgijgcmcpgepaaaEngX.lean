/-
  ENGINE, X: the program's code, made ready.
-/
import Derived.Test.YtgijgcmcpgepaaaEngI
namespace Go.Proofs.Ytgijgcmcpgepaaa.Eng
set_option linter.unusedSimpArgs false
set_option linter.unusedVariables false

def ofFlat : Value → Option AVal
  | .bool b => some (.bool b)
  | .int k n => some (.int k n)
  | .string s => some (.str s)
  | .pointer none => some .nilp
  | .slice none 0 0 => some .nils
  | .nilFunc => some .nilfn
  | .map none => some .nilm
  | .nilIface => some .nili
  | .float k n => some (.flt k n)
  | .complex k n m => some (.cpx k n m)
  | _ => none
def ofFlats : List Value → Option (List AVal)
  | [] => some []
  | v :: l => match ofFlat v with
    | none => none
    | some x => match ofFlats l with
      | none => none
      | some m => some (x :: m)
def ofVal : Value → Option AVal
  | .agg cs => (ofFlats cs.toList).map .agg
  | .tuple cs => (ofFlats cs.toList).map .tup
  | v => ofFlat v

def xopd : Operand → Option XOpd
  | .tmp t => some (.t t)
  | .const v => (ofVal v).map .c
  | .func f => some (.c (.fn f [] []))
  | .global _ => none
def xopds : List Operand → Option (List XOpd)
  | [] => some []
  | p :: l => match xopd p with
    | none => none
    | some x => match xopds l with
      | none => none
      | some m => some (x :: m)
def xparts (pl : Nat → Option (Nat × Nat)) : List (Nat × Operand) → Option (List (Nat × Nat × XOpd))
  | [] => some []
  | (i, p) :: l => match pl i, xopd p, xparts pl l with
    | some (off, sz), some x, some m => some ((off, sz, x) :: m)
    | _, _, _ => none
def xopdM : Option Operand → Option (Option XOpd)
  | none => some none
  | some p => (xopd p).map some

def isAggB : TypeDesc → Bool
  | .struct _ | .array .. => true
  | _ => false

/-- How values of a type are compared: depth, type. -/
def esOf (P : Program) : Nat → TypeId → Option ES
  | 0, _ => none
  | d + 1, t => match P.underlying t with
    | some (.int _) => some (.c 0)
    | some .bool => some (.c 1)
    | some .string => some (.c 2)
    | some (.struct fs) => if P.stoodInHeld t then none else (fieldsES (esOf P d) fs.toList).map .s
    | some (.array n e) => match P.info? e, P.underlying e, esOf P d e with
      | some i, some de, some x => some (.s ((List.range n).map fun k => (k * i.size, i.size, isAggB de, x)))
      | _, _, _ => none
    | _ => none
where
  fieldsES (f : TypeId → Option ES) : List Field → Option (List (Nat × Nat × Bool × ES))
    | [] => some []
    | x :: l => if x.name = "_" then none else match P.info? x.type, P.underlying x.type, f x.type, fieldsES f l with
      | some i, some d, some e, some m => some ((x.offset, i.size, isAggB d, e) :: m)
      | _, _, _, _ => none

def kfit : TypeDesc → Option Nat
  | .int _ => some 0
  | .bool => some 1
  | .string => some 2
  | _ => none
def xcall (P : Program) (nofz : List FuncId) (cl : Call) : Option XOp :=
  match cl.callee with
  | .value (.func f) => if nofz.contains (2000000 + f) then (xopds cl.args.toList).map (.callK f) else match xopds cl.args.toList with
    | some xs => some (.call (.c (.fn f [] [])) xs)
    | none => none
  | .value p => match xopd p, xopds cl.args.toList with
    | some x, some xs => some (.call x xs)
    | _, _ => none
  | .builtin .len => match cl.args.toList, cl.argTypes.toList with
    | [p], [t] => match P.underlying t, xopd p with
      | some .string, some x => some (.lenS x)
      | some (.slice _), some x => some (.len x)
      | some (.map _ _), some x => some (.lenM x)
      | _, _ => none
    | _, _ => none
  | .builtin .cap => match cl.args.toList, cl.argTypes.toList with
    | [p], [t] => match P.underlying t, xopd p with
      | some (.slice _), some x => some (.capN x)
      | _, _ => none
    | _, _ => none
  | .builtin .append => match cl.args.toList, cl.argTypes.toList with
    | [p, q], [t, t'] => if t = t' then (match P.underlying t with
      | some (.slice e) => match P.info? e, xopd p, xopd q with
        | some i, some x, some y => match i.zero with
          | some z => if z.cells.size = i.size then (if nofz.contains (4000000 + e) then some (.appendV e i.size i.bytes x y) else some (.append e i.size i.bytes x y)) else none
          | none => none
        | _, _, _ => none
      | _ => none) else (match P.underlying t, P.underlying t' with
      | some (.slice e), some (.int _) => match P.info? e, xopd p, xopd q with
        | some i, some x, some y => match i.zero with
          | some z => match ofFlats z.cells.toList with
            | some zero => if z.cells.size = i.size then some (.appendZ e i.size i.bytes zero x y) else none
            | none => none
          | none => none
        | _, _, _ => none
      | _, _ => none)
    | _, _ => none
  | .builtin .copy => match cl.args.toList, cl.argTypes.toList with
    | [p, q], t :: _ => match P.underlying t with
      | some (.slice e) => match P.info? e, xopd p, xopd q with
        | some i, some x, some y => some (.copy i.size x y)
        | _, _, _ => none
      | _ => none
    | _, _ => none
  | .builtin .real => match cl.args.toList, cl.argTypes.toList with
    | [p], [_] => match xopd p with
      | some x => some (.fl 2 .f64 x x)
      | none => none
    | _, _ => none
  | .builtin .imag => match cl.args.toList, cl.argTypes.toList with
    | [p], [_] => match xopd p with
      | some x => some (.fl 3 .f64 x x)
      | none => none
    | _, _ => none
  | .builtin .complex => match cl.args.toList with
    | [p, q] => match xopd p, xopd q with
      | some x, some y => some (.fl 1 .f64 x y)
      | _, _ => none
    | _ => none
  | .builtin .max => match xopds cl.args.toList with
    | some (x :: xs) => some (.ext true x xs)
    | _ => none
  | .builtin .min => match xopds cl.args.toList with
    | some (x :: xs) => some (.ext false x xs)
    | _ => none
  | _ => none

def xcomp (P : Program) (nofz : List FuncId) (o : Op) : Option XOp :=
  match o with
  | .move x => (xopd x).map .mov
  | .assign x => (xopd x).map .mov
  | .pick c a b => match xopd c, xopd a, xopd b with
    | some x, some y, some z => some (.pick x y z)
    | _, _, _ => none
  | .alloc e => match P.info? e with
    | some i => match i.zero with
      | some z => (ofFlats z.cells.toList).map (.new e)
      | none => none
    | none => none
  | .box e x => (xopd x).map (.box e)
  | .build t ps => match P.info? t, P.underlying t with
    | some it, some (.struct fs) => match it.zero, fs.toList.mapM (fun f => (P.info? f.type).map fun i => (f.offset, i.size)) with
      | some z, some pl => match ofFlats z.cells.toList, xparts (pl[·]?) ps.toList with
        | some zero, some xs => some (.build zero xs)
        | _, _ => none
      | _, _ => none
    | some it, some (.array _ e) => match it.zero, P.info? e with
      | some z, some ie => match ofFlats z.cells.toList, xparts (fun i => some (i * ie.size, ie.size)) ps.toList with
        | some zero, some xs => some (.build zero xs)
        | _, _ => none
      | _, _ => none
    | _, _ => none
  | .buildSlice t len ps => match P.underlying t with
    | some (.slice e) => match P.info? e, P.underlying e with
      | some ie, some d => match ie.zero with
        | some z => if len * ie.size ≤ 2 ^ 24 then (match ofFlats ((Array.range (len * ie.size)).map (z.cells[· % z.cells.size]!)).toList, xparts (fun i => some (i * ie.size, ie.size)) ps.toList with
          | some zero, some xs => if nofz.contains (3000000 + e) then some (.buildSliceF e ie.size len (isAggB d) zero xs) else some (.buildSlice e ie.size len (isAggB d) zero xs)
          | _, _ => none) else none
        | none => none
      | _, _ => none
    | _ => none
  | .load t a => match P.underlying t, xopd a with
    | some d, some x => if isAggB d then (match P.info? t with | some i => some (.loadn i.size x) | none => none) else some (.load1 x)
    | _, _ => none
  | .store t a v => match P.info? t, xopd a, xopd v with
    | some i, some x, some y => some (.store i.size x y)
    | _, _, _ => none
  | .nilCheck x => (xopd x).map .nilchk
  | .binOp op t x (.const .nilIface) _ => match P.underlying t, xopd x with
    | some (.interface _), some x => match op with
      | .eql => some (.isnil false x)
      | .neq => some (.isnil true x)
      | _ => none
    | _, _ => none
  | .binOp op t x (.const (.slice none _ _)) _ => match P.underlying t, xopd x with
    | some (.slice _), some x => match op with
      | .eql => some (.isnilS false x)
      | .neq => some (.isnilS true x)
      | _ => none
    | _, _ => none
  | .binOp op t x y _ => match P.underlying t, xopd x, xopd y with
    | some .bool, some x, some y => match op with
      | .eql => some (.eqb false x y)
      | .neq => some (.eqb true x y)
      | _ => none
    | some (.int _), some x, some y => some (.bin op x y)
    | some .string, some x, some y => some (.bin op x y)
    | some (.float _), some x, some y => some (.bin op x y)
    | some (.complex _), some x, some y => some (.bin op x y)
    | some (.struct _), some x, some y => if P.eqGuardType P.depth t then none else match esOf P 20 t with
      | some e => match op with
        | .eql => some (.eqA false e x y)
        | .neq => some (.eqA true e x y)
        | _ => none
      | none => none
    | some (.array _ _), some x, some y => if P.eqGuardType P.depth t then none else match esOf P 20 t with
      | some e => match op with
        | .eql => some (.eqA false e x y)
        | .neq => some (.eqA true e x y)
        | _ => none
      | none => none
    | _, _, _ => none
  | .unOp op _ x => (xopd x).map (.un op)
  | .convert s d x => match P.underlying s, P.underlying d, xopd x with
    | some (.float _), some (.int .i64), some x => some (.fl 4 .f64 x x)
    | some _, some (.int k), some x => some (.conv k x)
    | some _, some (.float k), some x => some (.fl 0 k x x)
    | _, _, _ => none
  | .makeFunc (.func f) first caps => match xopds first.toList, xopds caps.toList with
    | some xs, some ys => some (.fn (!nofz.contains f) f xs ys)
    | _, _ => none
  | .slice t x none (some h) (some m) => match P.underlying t with
    | some (.slice e) => match P.info? e, xopd x, xopd h, xopd m with
      | some i, some x, some h, some m => some (.clip e i.size x h m)
      | _, _, _, _ => none
    | _ => none
  | .slice t x (some lo) none none => match P.underlying t with
    | some (.slice e) => match P.info? e, xopd x, xopd lo with
      | some i, some x, some l => if nofz.contains (3000000 + e) then some (.sliceF e i.size x l) else some (.slice i.size x (some l) none)
      | _, _, _ => none
    | _ => none
  | .slice t x none (some hi) none => match P.underlying t with
    | some (.slice e) => match P.info? e, xopd x, xopd hi with
      | some i, some x, some h => if nofz.contains (5000000 + e) then some (.sliceV i.size x h) else some (.slice i.size x none (some h))
      | _, _, _ => none
    | _ => none
  | .slice t x lo hi none => match P.underlying t with
    | some (.slice e) => match P.info? e, xopd x, xopdM lo, xopdM hi with
      | some i, some x, some l, some h => some (.slice i.size x l h)
      | _, _, _, _ => none
    | some (.array n e) => match lo, hi, P.info? e, P.underlying e, xopd x with
      | none, none, some i, some d, some x => some (.sliceArr i.size n (isAggB d) x)
      | _, _, _, _, _ => none
    | _ => none
  | .fieldAddr s x n => match P.underlying s with
    | some (.struct fs) => match fs[n]? with
      | some f => match P.info? f.type, xopd x with
        | some i, some x => if i.size ≠ 0 then some (.faddr f.offset x) else none
        | _, _ => none
      | none => none
    | _ => none
  | .field s x n => match P.underlying s with
    | some (.struct fs) => match fs[n]? with
      | some f => match P.info? f.type, P.underlying f.type, xopd x with
        | some i, some d, some x => some (.field f.offset i.size (isAggB d) x)
        | _, _, _ => none
      | none => none
    | _ => none
  | .indexAddr t x i => match P.underlying t, xopd x, xopd i with
    | some (.slice e), some x, some y => match P.info? e with
      | some ie => some (.iaddr ie.size x y)
      | none => none
    | some (.array n e), some x, some y => match P.info? e with
      | some ie => some (.iaddrA ie.size n x y)
      | none => none
    | _, _, _ => none
  | .index t x i => match P.underlying t, xopd x, xopd i with
    | some .string, some x, some y => some (.indexS x y)
    | some (.array n e), some x, some y => match P.info? e, P.underlying e with
      | some ie, some d => some (.index ie.size n (isAggB d) x y)
      | _, _ => none
    | _, _, _ => none
  | .extract x n => (xopd x).map (.extract · n)
  | .makeSlice t l c => match P.underlying t with
    | some (.slice e) => match P.info? e, xopd l, xopd c with
      | some i, some x, some y => match i.zero with
        | some z => match ofFlats z.cells.toList with
          | some zero => if 0 < z.cells.size then some (.makeS e i.size i.bytes zero x y) else none
          | none => none
        | none => none
      | _, _, _ => none
    | _ => none
  | .call cl => xcall P nofz cl
  | .makeMap _ none => some .mkmap
  | .lookup t x k ok => match P.underlying t with
    | some (.map kt et) => match (P.underlying kt).bind kfit, P.info? et, xopd x, xopd k with
      | some kk, some i, some x, some k => match i.zero with
        | some z => match ofVal z with
          | some zero => some (.lookup kk zero ok x k)
          | none => none
        | none => none
      | none, some i, some x, some k => match i.zero, esOf P 20 kt with
        | some z, some (.s fs) => match ofVal z with
          | some zero => some (.lookupS (.s fs) zero ok x k)
          | none => none
        | _, _ => none
      | _, _, _, _ => none
    | _ => none
  | .mapUpdate t m k v | .insert t m k v => match P.underlying t with
    | some (.map kt _) => match (P.underlying kt).bind kfit, xopd m, xopd k, xopd v with
      | some kk, some m, some k, some v => some (.mapupd kk m k v)
      | none, some m, some k, some v => match esOf P 20 kt with
        | some (.s fs) => some (.mapupdS (.s fs) m k v)
        | _ => none
      | _, _, _, _ => none
    | _ => none
  | .range t x => match P.underlying t with
    | some (.map _ _) => (xopd x).map .mkiter
    | _ => none
  | .next x false => (xopd x).map .nextM
  | .entry x => (xopd x).map .entryM
  | _ => none

def edgesOf (o : Oper) : List Nat := o.after.toList.filterMap fun e => if Region.binds .any e then some e.on else none
def addNew : List Nat → List Nat → List Nat
  | [], l => l
  | x :: m, l => if l.any (Nat.beq x ·) then addNew m l else addNew m (x :: l)
/-- Of each operation all those that come before it. -/
def presFrom : List (List Nat) → List Oper → List (List Nat)
  | acc, [] => acc
  | acc, o :: l =>
    let es := edgesOf o
    presFrom (acc ++ [addNew (es.flatMap fun e => acc.getD e []) (addNew es [])]) l
def presOk (es : List (List Nat)) (ps : List (List Nat)) : Bool :=
  (es.zip ps).zipIdx.all fun p => p.1.1.all (fun e => Nat.blt e p.2) && p.1.2.all fun k => Nat.blt k p.2 && p.1.1.any fun e => Nat.beq k e || isIn (ps.getD e []) k
/-- Is a value handed on to a function that gets rows for good? -/
def frzAt (nofz : List FuncId) (ops : Array Oper) (dst : Option Nat) : Bool := ops.any fun o => match o.op with
  | .call cl => (match cl.callee with
    | .value (.func f) => nofz.contains (1000000 + f) && cl.args.any fun p => match p, dst with
      | .tmp d, some d' => Nat.beq d d'
      | _, _ => false
    | _ => false)
  | _ => false
/-- What never runs. -/
def xstuck : XOp := .lenS (.c .nilp)
def xcompF (P : Program) (nofz : List FuncId) (ops : Array Oper) (o : Oper) : Option XOp := match xcomp P nofz o.op with
  | some (.mov x) => if frzAt nofz ops o.dst then some (.movf x) else some (.mov x)
  | some r => some r
  | none => match o.op with
    | .defer _ => none
    | _ => some xstuck
def xoper (P : Program) (nofz : List FuncId) (ops : Array Oper) (o : Oper) (pre : List Nat) : Option XOper :=
  match xcompF P nofz ops o with
  | none => none
  | some x => match o.guard with
    | none => some ⟨o.dst, x, none, pre⟩
    | some (j, want) => match (ops[j]?).bind (·.dst) with
      | some t => some ⟨o.dst, x, some (t, want), pre⟩
      | none => none
def xopers (P : Program) (nofz : List FuncId) (ops : Array Oper) : List Oper → List (List Nat) → Option (List XOper)
  | [], _ => some []
  | o :: l, ps => match xoper P nofz ops o (ps.headD []), xopers P nofz ops l ps.tail with
    | some x, some m => some (x :: m)
    | _, _ => none
/-- No loop over a function stands in it. -/
def noRange : XCode → Bool
  | .seq a b | .cond _ a b => noRange a && noRange b
  | .block _ c | .loop c => noRange c
  | .rangeF .. => false
  | _ => true
def xcodeOf (P : Program) (nofz : List FuncId) : Code → Option XCode
  | .skip => some .skip
  | .region _ ops draw => if draw then (match xopers P nofz ops ops.toList (presFrom [] ops.toList) with
      | some xs => if statOk [] 0 xs && presOk (ops.toList.map edgesOf) (presFrom [] ops.toList) then some (.dreg xs) else none
      | none => none) else (xopers P nofz ops ops.toList []).map .reg
  | .seq a b => match xcodeOf P nofz a, xcodeOf P nofz b with
    | some x, some y => some (.seq x y)
    | _, _ => none
  | .cond c a b => match xopd c, xcodeOf P nofz a, xcodeOf P nofz b with
    | some c, some x, some y => some (.cond c x y)
    | _, _, _ => none
  | .block id c => (xcodeOf P nofz c).map (.block id)
  | .loop c => (xcodeOf P nofz c).map .loop
  | .exit id => some (.exit id)
  | .ret => some .ret
  | .rangeFunc f ps a b => match xopd f, xcodeOf P nofz a, xcodeOf P nofz b with
    | some f, some x, some y => some (.rangeF f ps.toList x y)
    | _, _, _ => none
  | _ => some (.cond (.c .nilp) .skip .skip)
def xretOf (P : Program) : ResultVar → Option XRet
  | .tmp t => some (.t t)
  | .cell a t => match P.underlying t, P.info? t with
    | some d, some i => some (if isAggB d then .cn a i.size else .c1 a)
    | _, _ => none
def xretsOf (P : Program) : List ResultVar → Option (List XRet)
  | [] => some []
  | r :: l => match xretOf P r, xretsOf P l with
    | some x, some m => some (x :: m)
    | _, _ => none
def xfuncOf (P : Program) (nofz : List FuncId) (fn : Func) : Option XFunc :=
  match fn.body with
  | none => none
  | some c => match xcodeOf P nofz c, xretsOf P fn.results.toList with
    | some b, some rs => if fn.name == "runtime.NumGoroutine" then none else some ⟨b, fn.ntmps, rs⟩
    | _, _ => none
def xprog (P : Program) (nofz : List FuncId) (f : FuncId) : Option XFunc := (P.funcs[f]?).bind (xfuncOf P nofz)
/-- The program, where some functions are given: number, parameters, what they hand back. -/
def xprogG (P : Program) (nofz : List FuncId) (gs : List (FuncId × Nat × (List AVal → Option AVal))) (f : FuncId) : Option XFunc := match gs.find? (fun g => Nat.beq g.1 f) with
  | some (_, n, g) => some ⟨.given g, n, [.t 0]⟩
  | none => xprog P nofz f
end Go.Proofs.Ytgijgcmcpgepaaa.Eng
