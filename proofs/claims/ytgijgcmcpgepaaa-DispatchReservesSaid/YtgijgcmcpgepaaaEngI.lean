/-
  ENGINE, I: code, run.
-/
import Derived.Test.YtgijgcmcpgepaaaEngC
namespace Go.Proofs.Ytgijgcmcpgepaaa.Eng
set_option linter.unusedSimpArgs false
set_option linter.unusedVariables false


mutual
def AVal.strip : AVal → AVal
  | .list s xs _ => .list s (stripL xs) none
  | .iptr cs off => .iptr (stripL cs) off
  | .fn f fs cs => .fn f (stripL fs) (stripL cs)
  | .agg cs => .agg (stripL cs)
  | .tup vs => .tup (stripL vs)
  | v => v
def stripL : List AVal → List AVal
  | [] => []
  | x :: l => x.strip :: stripL l
end

/-- A value, where nothing is written any more. -/
def sealV (σ : Store) : Nat → AVal → Option AVal
  | 0, _ => none
  | d + 1, v =>
    let go := sealL (sealV σ d)
    match v with
    | .list s xs _ => (go xs).map fun xs => .list s xs none
    | .vlist _ s n len => if 0 < s then (match σ.get n with
      | some (.cells cs) | some (.ro cs) => if 0 + len * s ≤ cs.length then (match go cs with
        | none => none
        | some cs => match chunks (s != 1) s len (cs.drop 0) with
          | none => none
          | some xs => some (.list s xs none)) else none
      | _ => none) else none
    | .mlist s n off len => if 0 < s then (match σ.get n with
      | some (.cells cs) | some (.ro cs) => if off + len * s ≤ cs.length then (match go cs with
        | none => none
        | some cs => match chunks (s != 1) s len (cs.drop off) with
          | none => none
          | some xs => some (.list s xs none)) else none
      | _ => none) else none
    | .ptr n off => match σ.get n with
      | some (.cells cs) | some (.ro cs) => (go cs).map fun cs => .iptr cs off
      | _ => none
    | .iptr cs off => (go cs).map fun cs => .iptr cs off
    | .fn f a b => match go a, go b with
      | some a, some b => some (.fn f a b)
      | _, _ => none
    | .agg cs => (go cs).map .agg
    | .tup cs => (go cs).map .tup
    | .map _ | .yld _ => none
    | v => some v
where
  sealL (f : AVal → Option AVal) : List AVal → Option (List AVal)
    | [] => some []
    | x :: l => match f x, sealL f l with
      | some y, some m => some (y :: m)
      | _, _ => none

def sealR (σ : Store) (v : AVal) : Option AVal :=
  let v := v.strip
  if v.free then some v else
  match sealV σ 40 v with
  | some u => if u.free then some u else none
  | none => none

def isIn (l : List Nat) (n : Nat) : Bool := l.any (Nat.beq n ·)
def XOp.opds : XOp → List XOpd
  | .mov x | .movf x | .box _ x | .load1 x | .loadn _ x | .nilchk x | .un _ x | .conv _ x | .sliceArr _ _ _ x | .faddr _ x | .field _ _ _ x | .extract x _ | .len x | .lenS x => [x]
  | .pick c a b => [c, a, b]
  | .new .. => []
  | .build _ ps | .buildSlice _ _ _ _ _ ps => ps.map (·.2.2)
  | .store _ a x | .bin _ a x | .eqb _ a x | .eqA _ _ a x | .iaddr _ a x | .iaddrA _ _ a x | .index _ _ _ a x | .indexS a x | .append _ _ _ a x | .makeS _ _ _ _ a x => [a, x]
  | .fn _ _ a b => a ++ b
  | .slice _ x lo hi => [x] ++ lo.toList ++ hi.toList
  | .call f args => f :: args
  | .ext _ x xs => x :: xs
  | .mkmap => []
  | .lookup _ _ _ x k => [x, k]
  | .mapupd _ m k v => [m, k, v]
  | .lenM x => [x]
  | .isnil _ x => [x]
  | .callK _ args => args
  | .isnilS _ x => [x]
  | .clip _ _ x h m => [x, h, m]
  | .copy _ x y => [x, y]
  | .fl _ _ x y => [x, y]
  | .buildSliceF _ _ _ _ _ ps => ps.map (·.2.2)
  | .sliceF _ _ x lo => [x, lo]
  | .sliceV _ x hi => [x, hi]
  | .capN x => [x]
  | .appendZ _ _ _ _ x n => [x, n]
  | .appendV _ _ _ x y => [x, y]
  | .lookupS _ _ _ x k => [x, k]
  | .mapupdS _ m k v => [m, k, v]
  | .mkiter x | .nextM x | .entryM x => [x]
def tmpsOf (l : List XOpd) : List Nat := l.filterMap fun | .t n => some n | _ => none
def XOper.looks (o : XOper) : List Nat := tmpsOf o.op.opds ++ (match o.guard with | some (t, _) => [t] | none => [])
/-- An operation does not touch what another one writes. -/
def meets (x y : XOper) : Bool := match x.dst with
  | some d => isIn y.looks d || (match y.dst with | some e => Nat.beq d e | none => false)
  | none => false
def statOk : List XOper → Nat → List XOper → Bool
  | _, _, [] => true
  | past, i, o :: l => (past.zipIdx.all fun p => isIn o.pre p.2 || (!meets p.1 o && !meets o p.1)) && statOk (past ++ [o]) (i + 1) l

inductive XRet where
  | t (n : Nat)
  | c1 (n : Nat)
  | cn (n k : Nat)

structure XFunc where
  body : XCode
  ntmps : Nat
  results : List XRet
def XExit.isN : XExit → Bool
  | .normal => true
  | _ => false

def putT (tm : List AVal) (dst : Option Nat) (v : AVal) : List AVal :=
  match dst with
  | some d => tm.set d v
  | none => tm

def xwanted (g : Option (Nat × Bool)) (tm : List AVal) : Bool :=
  match g with
  | none => true
  | some (t, want) => match tm[t]? with
    | some (.bool b) => b == want
    | _ => false

def xret (tm : List AVal) (σ : Store) : XRet → Option AVal
  | .t n => some (tm.getD n aundef)
  | .c1 n => match xload σ (tm.getD n aundef) with
    | some (cs, off) => cs[off]?
    | none => none
  | .cn n k => match xload σ (tm.getD n aundef) with
    | some (cs, off) => if off + k ≤ cs.length then some (.agg ((cs.drop off).take k)) else none
    | none => none
def xrets (tm : List AVal) (σ : Store) : List XRet → Option (List AVal)
  | [] => some []
  | r :: l => match xret tm σ r with
    | none => none
    | some v => match xrets tm σ l with
      | none => none
      | some m => some (v :: m)
def xresult (tm : List AVal) (σ : Store) (l : List XRet) : Option AVal :=
  match xrets tm σ l with
  | some [v] => some v
  | some vs => some (.tup vs)
  | none => none

/-- The names that an operation looks at. -/
def touch (o : XOp) (tm : List AVal) (σ : Store) : List Nat :=
  match o with
  | .load1 x | .loadn _ x | .store _ x _ => match x.eval tm with
    | .ptr n _ => [n]
    | _ => []
  | .movf x => match (x.eval tm).down with
    | .mlist _ n _ _ => [n]
    | _ => []
  | .append _ _ _ x y => (match x.eval tm with
    | .list _ _ (some k) => [k]
    | _ => []) ++ (match y.eval tm with
    | .mlist _ n _ _ => [n]
    | _ => [])
  | .copy _ x y => (match (x.eval tm).down with
    | .mlist _ n _ _ => [n]
    | _ => []) ++ (match (y.eval tm).down with
    | .mlist _ n _ _ => [n]
    | _ => [])
  | .lookup _ _ _ x _ | .lenM x | .mapupd _ x _ _ | .lookupS _ _ _ x _ | .mapupdS _ x _ _ | .mkiter x => match x.eval tm with
    | .map n => [n]
    | _ => []
  | .fn true _ _ caps => caps.filterMap fun x => match x.eval tm with
    | .ptr n _ => some n
    | _ => none
  | .appendV _ _ _ x y => (match x.eval tm with
    | .list _ _ (some k) => [k]
    | .vlist _ _ n _ => [n]
    | _ => []) ++ (match y.eval tm with
    | .mlist _ n _ _ => [n]
    | .vlist _ _ n _ => [n]
    | _ => [])
  | .sliceF _ _ x _ => match x.eval tm with
    | .list _ _ (some k) => [k + 1]
    | _ => []
  | .nextM x | .entryM x => match x.eval tm with
    | .ptr r _ => r :: (match σ.get r with
      | some (.oth (.iter (some m) _ _)) => [m]
      | _ => [])
    | _ => []
  | _ => []
/-- The names among them that it may change. -/
def wrote (o : XOp) (σ : Store) (tch : List Nat) : List Nat :=
  match o with
  | .load1 _ | .loadn .. | .lookup .. | .lenM .. | .lookupS .. | .entryM .. => []
  | .fn .. => tch.filter fun n => match σ.get n with
    | some (.cells _) => true
    | _ => false
  | _ => tch
def capOne (tm : List AVal) : XOpd → Option AVal
  | .t n => some (tm.getD n aundef)
  | _ => none
def capsOf (tm : List AVal) : List XOper → List AVal
  | [] => []
  | o :: l => match o.op with
    | .fn true _ _ caps => caps.filterMap (capOne tm) ++ capsOf tm l
    | _ => capsOf tm l

def Store.only (σ : Store) (l : List Nat) : Store := ⟨l.filterMap fun n => (σ.get n).map fun o => (n, o), σ.next⟩
def Store.merge (σ τ : Store) (wr : List Nat) : Store := ⟨τ.objs.filter (fun p => isIn wr p.1) ++ σ.objs.filter (fun p => !isIn wr p.1), τ.next⟩

def hits (l m : List Nat) : Bool := l.any fun x => m.any fun y => Nat.beq x y
def okRec : List (List Nat × List Nat) → Nat → List Nat → List Nat → List Nat → Bool
  | [], _, _, _, _ => true
  | (t, w) :: l, i, pre, tch, wr => (pre.any (Nat.beq i ·) || (!hits t wr && !hits w tch && !hits w wr)) && okRec l (i + 1) pre tch wr

mutual
def AVal.names : AVal → List Nat
  | .list _ xs tok => namesL xs ++ tok.toList
  | .mlist _ n _ _ => [n]
  | .vlist _ _ n _ => [n]
  | .ptr n _ => [n]
  | .map n => [n]
  | .yld n => [n]
  | .iptr cs _ => namesL cs
  | .fn _ a b => namesL a ++ namesL b
  | .agg cs => namesL cs
  | .tup cs => namesL cs
  | _ => []
def namesL : List AVal → List Nat
  | [] => []
  | x :: l => x.names ++ namesL l
end
def NObj.names : NObj → List Nat
  | .cells cs => namesL cs
  | .ro cs => namesL cs
  | .tok .. => []
  | .full .. => []
  | .gone => []
  | .oth (.map es) => namesL (es.map (·.1)) ++ namesL (es.map (·.2))
  | .oth (.loop _ tm _ _ _) => namesL tm
  | .oth (.iter m _ _) => m.toList
/-- All names that are reached. -/
def reach (σ : Store) : Nat → List Nat → List Nat → List Nat
  | 0, _, acc => acc
  | _ + 1, [], acc => acc
  | n + 1, m :: l, acc => if isIn acc m then reach σ n l acc else match σ.get m with
    | some o => reach σ n (o.names ++ l) (m :: acc)
    | none => reach σ n l (m :: acc)
/-- What is still reached behind a call. -/
def gc (_ τ : Store) (_ : AVal) : Store := τ
def upTo (a b : Nat) : List Nat := (List.range (b - a)).map (a + ·)

/-- A round of a loop over a function: it begins; its body begins; it ends; the loop ends. -/
def setPs (tm : List AVal) (ps : List Nat) (args : List AVal) : List AVal := (ps.zip args).foldl (fun t p => t.set p.1 p.2) tm
def roundIn (σ : Store) (m : Nat) (args : List AVal) : Option (List AVal × XCode × XCode) := match σ.get m with
  | some (.oth (.loop .ready tm ps a b)) => if args.length = ps.length then some (setPs tm ps args, a, b) else none
  | _ => none
def roundMid (σ : Store) (m : Nat) : Option Store := match σ.get m with
  | some (.oth (.loop .ready tm ps a b)) => some (σ.put m (.oth (.loop .busy tm ps a b)))
  | _ => none
def roundOut (σ : Store) (m : Nat) (e : XExit) : Option Store := match σ.get m with
  | some (.oth (.loop .busy tm ps a b)) => some (σ.put m (.oth (.loop (if e.isN then .ready else .done e) tm ps a b)))
  | _ => none
def Store.drop (σ : Store) (m : Nat) : Store := ⟨σ.objs.filter fun p => !Nat.beq p.1 m, σ.next⟩
def rangeOut (σ : Store) (m : Nat) : Option XExit := match σ.get m with
  | some (.oth (.loop .ready _ _ _ _)) => some .normal
  | some (.oth (.loop (.done e) _ _ _ _)) => some e
  | _ => none

inductive Job where
  | code (c : XCode)
  | ops (l : List XOper)
  | dops (l : List XOper) (recs : List (List Nat × List Nat))
  | call (f : FuncId)
  | round (m : Nat)
  | callK (f : FuncId)

def run (X : FuncId → Option XFunc) : Nat → Job → List AVal → Store → Option (XExit × List AVal × Store)
  | 0, _, _, _ => none
  | n + 1, .code c, tm, σ => match c with
    | .skip => some (.normal, tm, σ)
    | .reg l => run X n (.ops l) tm σ
    | .dreg l => run X n (.dops l []) tm (xcaps σ (capsOf tm l)).2
    | .seq a b => match run X n (.code a) tm σ with
      | some (.normal, tm, σ) => run X n (.code b) tm σ
      | r => r
    | .cond c a b => match c.eval tm with
      | .bool true => run X n (.code a) tm σ
      | .bool false => run X n (.code b) tm σ
      | _ => none
    | .block id c => match run X n (.code c) tm σ with
      | some (.exit id', tm, σ) => if Nat.beq id' id then some (.normal, tm, σ) else some (.exit id', tm, σ)
      | r => r
    | .loop c => match run X n (.code c) tm σ with
      | some (.normal, tm, σ) => run X n (.code (.loop c)) tm σ
      | r => r
    | .exit id => some (.exit id, tm, σ)
    | .ret => some (.ret, tm, σ)
    | .rangeF f ps a b => match f.eval tm with
      | .fn gf first caps => match run X n (.call gf) (first ++ [.yld σ.next] ++ caps) (σ.new (.oth (.loop .ready tm ps a b))) with
        | some (_, [_], τ) => match rangeOut τ σ.next with
          | some e => some (e, tm, τ.drop σ.next)
          | none => none
        | _ => none
      | _ => none
    | .given g => match g tm with
      | some v => some (.ret, putT tm (some 0) v, σ)
      | none => none
  | n + 1, .ops l, tm, σ => match l with
    | [] => some (.normal, tm, σ)
    | o :: l =>
      if xwanted o.guard tm then
        match xop o.op tm σ with
        | some (.val v σ) => run X n (.ops l) (putT tm o.dst v) σ
        | some (.enter f args) => match run X n (.call f) args σ with
          | some (_, [v], σ) => run X n (.ops l) (putT tm o.dst v) σ
          | _ => none
        | some (.round m args) => match run X n (.round m) args σ with
          | some (_, [v], σ) => run X n (.ops l) (putT tm o.dst v) σ
          | _ => none
        | some (.enterK f args) => match run X n (.callK f) args σ with
          | some (_, [v], σ) => run X n (.ops l) (putT tm o.dst v) σ
          | _ => none
        | none => none
      else run X n (.ops l) (putT tm o.dst aundef) σ
  | n + 1, .dops l recs, tm, σ => match l with
    | [] => some (.normal, tm, σ)
    | o :: l =>
      if xwanted o.guard tm then
        let tch := touch o.op tm σ
        match xop o.op tm (σ.only tch) with
        | some (.val v τ) =>
          let wr := wrote o.op σ tch ++ upTo σ.next τ.next
          if okRec recs 0 o.pre tch wr then run X n (.dops l (recs ++ [(tch, wr)])) (putT tm o.dst v) (σ.merge τ wr) else none
        | some (.enter f args) => if freeL (stripL args) then
            match run X n (.call f) args Store.empty with
            | some (_, [v], _) => run X n (.dops l (recs ++ [([], [])])) (putT tm o.dst v) σ
            | _ => none
          else
            let tch := reach σ 10000 (namesL args) []
            match run X n (.call f) args (σ.only tch) with
            | some (_, [v], τ) =>
              let wr := tch ++ upTo σ.next τ.next
              if okRec recs 0 o.pre tch wr then run X n (.dops l (recs ++ [(tch, wr)])) (putT tm o.dst v) (σ.merge τ wr) else none
            | _ => none
        | some (.round m args) =>
          let tch := reach σ 10000 (m :: namesL args) []
          match run X n (.round m) args (σ.only tch) with
          | some (_, [v], τ) =>
            let wr := tch ++ upTo σ.next τ.next
            if okRec recs 0 o.pre tch wr then run X n (.dops l (recs ++ [(tch, wr)])) (putT tm o.dst v) (σ.merge τ wr) else none
          | _ => none
        | some (.enterK f args) =>
          let tch := reach σ 10000 (namesL args) []
          match run X n (.callK f) args (σ.only tch) with
          | some (_, [v], τ) =>
            let wr := tch ++ upTo σ.next τ.next
            if okRec recs 0 o.pre tch wr then run X n (.dops l (recs ++ [(tch, wr)])) (putT tm o.dst v) (σ.merge τ wr) else none
          | _ => none
        | none => none
      else run X n (.dops l (recs ++ [([], [])])) (putT tm o.dst aundef) σ
  | n + 1, .call f, args, σ => match X f with
    | none => none
    | some xf =>
      let args' := stripL args
      if freeL args' then
        match run X n (.code xf.body) (args' ++ List.replicate (xf.ntmps - args'.length) aundef) Store.empty with
        | some (.exit _, _, _) => none
        | some (_, tm, τ) => match xresult tm τ xf.results with
          | some v => match sealR τ v with
            | some v => some (.ret, [v], σ)
            | none => none
          | none => none
        | none => none
      else
        match run X n (.code xf.body) (args ++ List.replicate (xf.ntmps - args.length) aundef) σ with
        | some (.exit _, _, _) => none
        | some (_, tm, τ) => match xresult tm τ xf.results with
          | some v => some (.ret, [v], gc σ τ v)
          | none => none
        | none => none
  | n + 1, .callK f, args, σ => match X f with
    | none => none
    | some xf => match run X n (.code xf.body) (args ++ List.replicate (xf.ntmps - args.length) aundef) σ with
      | some (.exit _, _, _) => none
      | some (_, tm, τ) => match xresult tm τ xf.results with
        | some v => some (.ret, [v], gc σ τ v)
        | none => none
      | none => none
  | n + 1, .round m, args, σ => match roundIn σ m args with
    | none => none
    | some (t0, a, b) => match run X n (.code a) t0 σ with
      | some (.normal, tm1, σ1) => match roundMid σ1 m with
        | none => none
        | some σ2 => match run X n (.code b) tm1 σ2 with
          | some (e, _, σ3) => match roundOut σ3 m e with
            | some σ4 => some (.ret, [.bool e.isN], σ4)
            | none => none
          | none => none
      | _ => none
end Go.Proofs.Ytgijgcmcpgepaaa.Eng
