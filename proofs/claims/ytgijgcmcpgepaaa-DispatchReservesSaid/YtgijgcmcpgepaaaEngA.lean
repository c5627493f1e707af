/-
  ENGINE, A: values without addresses, and how they stand for the machine's values.
-/
import Derived.Calls
import Derived.Orders
import Derived.Below
namespace Go.Proofs.Ytgijgcmcpgepaaa.Eng
set_option linter.unusedSimpArgs false
set_option linter.unusedVariables false

/-- A value whose lists are their elements. -/
inductive AVal where
  | bool (b : Bool)
  | int (k : IntKind) (n : Int)
  | str (s : ByteArray)
  | nils
  | list (s : Nat) (xs : List AVal) (tok : Option Nat)
  | mlist (s n off len : Nat)
  | ptr (n off : Nat)
  | iptr (cs : List AVal) (off : Nat)
  | nilp
  | fn (f : FuncId) (first caps : List AVal)
  | nilfn
  | agg (cs : List AVal)
  | tup (vs : List AVal)
  | map (n : Nat)
  | nilm
  | yld (n : Nat)
  | nili
  | errv
  | flt (k : FloatKind) (n : Nat)
  | cpx (k : FloatKind) (re im : Nat)
  | vlist (e s n len : Nat)
  deriving Inhabited

def AVal.cells : AVal → List AVal
  | .agg cs => cs
  | v => [v]

def aundef : AVal := .tup []

inductive XOpd where
  | t (n : Nat)
  | c (v : AVal)
  deriving Inhabited
def XOpd.eval (tm : List AVal) : XOpd → AVal
  | .t n => tm.getD n aundef
  | .c v => v

/-- How values of a type are compared. -/
inductive ES where
  | c (k : Nat)
  | s (fs : List (Nat × Nat × Bool × ES))
  deriving Inhabited

inductive XOp where
  | mov (x : XOpd)
  | pick (c a b : XOpd)
  | new (e : TypeId) (cs : List AVal)
  | box (e : TypeId) (x : XOpd)
  | build (zero : List AVal) (parts : List (Nat × Nat × XOpd))
  | buildSlice (e : TypeId) (s len : Nat) (agg : Bool) (zero : List AVal) (parts : List (Nat × Nat × XOpd))
  | load1 (x : XOpd)
  | loadn (n : Nat) (x : XOpd)
  | store (n : Nat) (a x : XOpd)
  | nilchk (x : XOpd)
  | bin (op : BinOp) (x y : XOpd)
  | eqb (neg : Bool) (x y : XOpd)
  | eqA (neg : Bool) (e : ES) (x y : XOpd)
  | un (op : UnOp) (x : XOpd)
  | conv (k : IntKind) (x : XOpd)
  | fn (frz : Bool) (f : FuncId) (first caps : List XOpd)
  | slice (s : Nat) (x : XOpd) (lo hi : Option XOpd)
  | sliceArr (s n : Nat) (agg : Bool) (x : XOpd)
  | faddr (off : Nat) (x : XOpd)
  | field (off sz : Nat) (agg : Bool) (x : XOpd)
  | iaddr (s : Nat) (x i : XOpd)
  | iaddrA (s len : Nat) (x i : XOpd)
  | index (s len : Nat) (agg : Bool) (x i : XOpd)
  | indexS (x i : XOpd)
  | extract (x : XOpd) (i : Nat)
  | call (f : XOpd) (args : List XOpd)
  | len (x : XOpd)
  | lenS (x : XOpd)
  | append (e s bytes : Nat) (x y : XOpd)
  | ext (isMax : Bool) (x : XOpd) (xs : List XOpd)
  | movf (x : XOpd)
  | makeS (e : TypeId) (s bytes : Nat) (zero : List AVal) (x y : XOpd)
  | mkmap
  | lookup (kk : Nat) (zero : AVal) (ok : Bool) (x k : XOpd)
  | mapupd (kk : Nat) (m k v : XOpd)
  | lenM (x : XOpd)
  | isnil (neg : Bool) (x : XOpd)
  | callK (f : FuncId) (args : List XOpd)
  | isnilS (neg : Bool) (x : XOpd)
  | clip (e : TypeId) (s : Nat) (x h m : XOpd)
  | copy (s : Nat) (x y : XOpd)
  | fl (n : Nat) (k : FloatKind) (x y : XOpd)
  | buildSliceF (e : TypeId) (s len : Nat) (agg : Bool) (zero : List AVal) (parts : List (Nat × Nat × XOpd))
  | sliceF (e : TypeId) (s : Nat) (x lo : XOpd)
  | sliceV (s : Nat) (x hi : XOpd)
  | capN (x : XOpd)
  | appendZ (e s bytes : Nat) (zero : List AVal) (x n : XOpd)
  | appendV (e s bytes : Nat) (x y : XOpd)
  | lookupS (e : ES) (zero : AVal) (ok : Bool) (x k : XOpd)
  | mapupdS (e : ES) (m k v : XOpd)
  | mkiter (x : XOpd)
  | nextM (x : XOpd)
  | entryM (x : XOpd)
  deriving Inhabited

structure XOper where
  dst : Option Nat
  op : XOp
  guard : Option (Nat × Bool)
  pre : List Nat
  deriving Inhabited

inductive XCode where
  | skip
  | reg (ops : List XOper)
  | dreg (ops : List XOper)
  | seq (a b : XCode)
  | cond (c : XOpd) (a b : XCode)
  | block (id : Nat) (c : XCode)
  | loop (c : XCode)
  | exit (id : Nat)
  | ret
  | rangeF (f : XOpd) (ps : List Nat) (a b : XCode)
  | given (g : List AVal → Option AVal)
  deriving Inhabited

inductive XExit where
  | normal
  | exit (id : Nat)
  | ret
  deriving Inhabited

/-- How a loop over a function stands. -/
inductive LSt where
  | ready
  | busy
  | done (e : XExit)
  deriving Inhabited
/-- What lies in memory beside cells: maps, and loops over functions. -/
inductive OObj where
  | map (es : List (AVal × AVal))
  | loop (st : LSt) (tm : List AVal) (ps : List Nat) (a b : XCode)
  | iter (m : Option Nat) (since : Nat) (seen : List Nat)

/-- What is known of memory: cells that stay for ever, the blocks of names, the blocks that a growing list has had by its length. -/
structure Ghost where
  imm : Nat → Nat → Option Value
  ρ : Nat → Option Nat
  H : Nat → Nat → Option (Nat × Nat)
  cr : Code → XCode → Prop

structure Ghost.le (G G' : Ghost) : Prop where
  imm : ∀ {b o v}, G.imm b o = some v → G'.imm b o = some v
  ρ : ∀ {n b}, G.ρ n = some b → G'.ρ n = some b
  H : ∀ {k l x}, G.H k l = some x → G'.H k l = some x
  cr : G'.cr = G.cr

theorem Ghost.le.refl (G : Ghost) : G.le G := ⟨id, id, id, rfl⟩
theorem Ghost.le.trans {G G' G'' : Ghost} (h : G.le G') (h' : G'.le G'') : G.le G'' :=
  ⟨fun x => h'.imm (h.imm x), fun x => h'.ρ (h.ρ x), fun x => h'.H (h.H x), h'.cr.trans h.cr⟩

inductive VRel (G : Ghost) : AVal → Value → Prop where
  | bool (b : Bool) : VRel G (.bool b) (.bool b)
  | int (k : IntKind) (n : Int) : VRel G (.int k n) (.int k n)
  | str (s : ByteArray) : VRel G (.str s) (.string s)
  | nils : VRel G .nils (.slice none 0 0)
  | list (s : Nat) (xs : List AVal) (tok : Option Nat) (b o cap : Nat) (f : Nat → Nat → Value)
      (hcap : xs.length ≤ cap)
      (hs : ∀ (i : Nat) (x : AVal), xs[i]? = some x → x.cells.length = s)
      (hI : ∀ (i : Nat) (x : AVal) (j : Nat) (c : AVal), xs[i]? = some x → x.cells[j]? = some c → G.imm b (o + i * s + j) = some (f i j))
      (hv : ∀ (i : Nat) (x : AVal) (j : Nat) (c : AVal), xs[i]? = some x → x.cells[j]? = some c → VRel G c (f i j))
      (ht : ∀ k, tok = some k → o = 0 ∧ G.H k xs.length = some (b, cap)) :
      VRel G (.list s xs tok) (.slice (some ⟨b, o, none⟩) xs.length cap)
  | list0 (s : Nat) (tok : Option Nat) (a : Addr) (cap : Nat) (ht : ∀ k, tok = some k → cap = 0) : VRel G (.list s [] tok) (.slice (some a) 0 cap)
  | mlist (s n off len b cap : Nat) (hn : G.ρ n = some b) (hcap : len ≤ cap) : VRel G (.mlist s n off len) (.slice (some ⟨b, off, none⟩) len cap)
  | ptr (n off b : Nat) (hn : G.ρ n = some b) : VRel G (.ptr n off) (.pointer (some ⟨b, off, none⟩))
  | iptr (cs : List AVal) (off b o : Nat) (f : Nat → Value)
      (hI : ∀ (j : Nat) (c : AVal), cs[j]? = some c → G.imm b (o + j) = some (f j))
      (hv : ∀ (j : Nat) (c : AVal), cs[j]? = some c → VRel G c (f j)) :
      VRel G (.iptr cs off) (.pointer (some ⟨b, o + off, none⟩))
  | nilp : VRel G .nilp (.pointer none)
  | fn (f : FuncId) (first caps : List AVal) (fs cs : Array Value) (hf : first.length = fs.size) (hc : caps.length = cs.size)
      (vf : ∀ (i : Nat) (x : AVal) (v : Value), first[i]? = some x → fs[i]? = some v → VRel G x v)
      (vc : ∀ (i : Nat) (x : AVal) (v : Value), caps[i]? = some x → cs[i]? = some v → VRel G x v) :
      VRel G (.fn f first caps) (.func (.func f) fs cs)
  | nilfn : VRel G .nilfn .nilFunc
  | agg (xs : List AVal) (cs : Array Value) (hl : xs.length = cs.size) (hv : ∀ (i : Nat) (x : AVal) (v : Value), xs[i]? = some x → cs[i]? = some v → VRel G x v) :
      VRel G (.agg xs) (.agg cs)
  | tup (xs : List AVal) (cs : Array Value) (hl : xs.length = cs.size) (hv : ∀ (i : Nat) (x : AVal) (v : Value), xs[i]? = some x → cs[i]? = some v → VRel G x v) :
      VRel G (.tup xs) (.tuple cs)
  | map (n b : Nat) (hn : G.ρ n = some b) : VRel G (.map n) (.map (some b))
  | nilm : VRel G .nilm (.map none)
  | yld (n l : Nat) (hn : G.ρ n = some l) : VRel G (.yld n) (.func (.yield l) #[] #[])
  | nili : VRel G .nili .nilIface
  | errv (t : TypeId) (x : Value) : VRel G .errv (.iface t x)
  | flt (k : FloatKind) (n : Nat) : VRel G (.flt k n) (.float k n)
  | cpx (k : FloatKind) (re im : Nat) : VRel G (.cpx k re im) (.complex k re im)
  | vlist (e s n len b cap tot : Nat) (hn : G.ρ n = some b) (hH : G.H n 0 = some (tot, e)) (hcap : len ≤ cap) (hroom : cap * s ≤ tot) : VRel G (.vlist e s n len) (.slice (some ⟨b, 0, none⟩) len cap)

theorem VRel.mono {G G' : Ghost} (h : G.le G') {x : AVal} {v : Value} (r : VRel G x v) : VRel G' x v := by
  induction r with
  | bool b => exact .bool b
  | int k n => exact .int k n
  | str s => exact .str s
  | nils => exact .nils
  | list s xs tok b o cap f hcap hs hI hv ht ih => exact .list s xs tok b o cap f hcap hs (fun i x j c h1 h2 => h.imm (hI i x j c h1 h2)) ih (fun k hk => ⟨(ht k hk).1, h.H (ht k hk).2⟩)
  | list0 s tok a cap ht => exact .list0 s tok a cap ht
  | mlist s n off len b cap hn hcap => exact .mlist s n off len b cap (h.ρ hn) hcap
  | ptr n off b hn => exact .ptr n off b (h.ρ hn)
  | iptr cs off b o f hI hv ih => exact .iptr cs off b o f (fun j c h1 => h.imm (hI j c h1)) ih
  | nilp => exact .nilp
  | fn f first caps fs cs hf hc vf vc ihf ihc => exact .fn f first caps fs cs hf hc ihf ihc
  | nilfn => exact .nilfn
  | agg xs cs hl hv ih => exact .agg xs cs hl ih
  | tup xs cs hl hv ih => exact .tup xs cs hl ih
  | map n b hn => exact .map n b (h.ρ hn)
  | nilm => exact .nilm
  | yld n l hn => exact .yld n l (h.ρ hn)
  | nili => exact .nili
  | errv t x => exact .errv t x
  | flt k n => exact .flt k n
  | cpx k n m => exact .cpx k n m
  | vlist e s n len b cap tot hn hH hcap hroom => exact .vlist e s n len b cap tot (h.ρ hn) (h.H hH) hcap hroom

/-- Values one by one. -/
structure ARel (G : Ghost) (xs : List AVal) (cs : Array Value) : Prop where
  len : xs.length = cs.size
  val : ∀ (i : Nat) (x : AVal) (v : Value), xs[i]? = some x → cs[i]? = some v → VRel G x v

theorem ARel.mono {G G' : Ghost} (h : G.le G') {xs : List AVal} {cs : Array Value} (r : ARel G xs cs) : ARel G' xs cs := ⟨r.len, fun i x v a b => (r.val i x v a b).mono h⟩
theorem ARel.get {G : Ghost} {xs : List AVal} {cs : Array Value} (r : ARel G xs cs) {i : Nat} {x : AVal} (h : xs[i]? = some x) : ∃ v, cs[i]? = some v ∧ VRel G x v := by
  have hi : i < xs.length := (List.getElem?_eq_some_iff.1 h).1
  rw [r.len] at hi
  exact ⟨cs[i], Array.getElem?_eq_getElem hi, r.val i x _ h (Array.getElem?_eq_getElem hi)⟩
theorem ARel.nil (G : Ghost) : ARel G [] #[] := ⟨rfl, fun i x v h => by simp at h⟩
theorem VRel.of_agg {G : Ghost} {xs : List AVal} {v : Value} (h : VRel G (.agg xs) v) : ∃ cs, v = .agg cs ∧ ARel G xs cs := by
  cases h with | agg _ cs hl hv => exact ⟨cs, rfl, hl, hv⟩
theorem VRel.of_tup {G : Ghost} {xs : List AVal} {v : Value} (h : VRel G (.tup xs) v) : ∃ cs, v = .tuple cs ∧ ARel G xs cs := by
  cases h with | tup _ cs hl hv => exact ⟨cs, rfl, hl, hv⟩
theorem VRel.mk_agg {G : Ghost} {xs : List AVal} {cs : Array Value} (h : ARel G xs cs) : VRel G (.agg xs) (.agg cs) := .agg _ _ h.len h.val
theorem VRel.mk_tup {G : Ghost} {xs : List AVal} {cs : Array Value} (h : ARel G xs cs) : VRel G (.tup xs) (.tuple cs) := .tup _ _ h.len h.val

theorem ARel.single {G : Ghost} {x : AVal} {v : Value} (h : VRel G x v) : ARel G [x] #[v] :=
  ⟨rfl, fun i y u h1 h2 => by
    cases i with
    | zero => simp at h1 h2; subst h1; subst h2; exact h
    | succ i => simp at h1⟩

/-- The cells of a value, one by one. -/
theorem VRel.cells {G : Ghost} {x : AVal} {v : Value} (h : VRel G x v) : ARel G x.cells v.cells := by
  cases h with
  | agg xs cs hl hv => exact ⟨hl, hv⟩
  | bool b => exact ARel.single (.bool b)
  | int k n => exact ARel.single (.int k n)
  | str s => exact ARel.single (.str s)
  | nils => exact ARel.single .nils
  | list s xs tok b o cap f hcap hs hI hv ht => exact ARel.single (.list s xs tok b o cap f hcap hs hI hv ht)
  | list0 s tok a cap ht => exact ARel.single (.list0 s tok a cap ht)
  | mlist s n off len b cap hn hcap => exact ARel.single (.mlist s n off len b cap hn hcap)
  | ptr n off b hn => exact ARel.single (.ptr n off b hn)
  | iptr cs off b o f hI hv => exact ARel.single (.iptr cs off b o f hI hv)
  | nilp => exact ARel.single .nilp
  | fn f first caps fs cs hf hc vf vc => exact ARel.single (.fn f first caps fs cs hf hc vf vc)
  | nilfn => exact ARel.single .nilfn
  | tup xs cs hl hv => exact ARel.single (.tup xs cs hl hv)
  | map n b hn => exact ARel.single (.map n b hn)
  | nilm => exact ARel.single .nilm
  | yld n l hn => exact ARel.single (.yld n l hn)
  | nili => exact ARel.single .nili
  | errv t x => exact ARel.single (.errv t x)
  | flt k n => exact ARel.single (.flt k n)
  | cpx k n m => exact ARel.single (.cpx k n m)
  | vlist e s n len b cap tot hn hH hcap hroom => exact ARel.single (.vlist e s n len b cap tot hn hH hcap hroom)

theorem ARel.set {G : Ghost} {xs : List AVal} {cs : Array Value} (r : ARel G xs cs) {x : AVal} {v : Value} (h : VRel G x v) (i : Nat) : ARel G (xs.set i x) (cs.setIfInBounds i v) := by
  refine ⟨by simp [r.len], fun j y u h1 h2 => ?_⟩
  by_cases hij : i = j
  · subst hij
    by_cases hi : i < xs.length
    · rw [List.getElem?_set_self hi] at h1
      rw [Array.getElem?_setIfInBounds_self_of_lt (by rw [← r.len]; exact hi)] at h2
      cases h1; cases h2; exact h
    · rw [List.getElem?_eq_none (by simpa using Nat.le_of_not_lt hi)] at h1; cases h1
  · rw [List.getElem?_set_ne hij] at h1
    rw [Array.getElem?_setIfInBounds_ne hij] at h2
    exact r.val j y u h1 h2

theorem undef_rel (G : Ghost) : VRel G aundef undef := VRel.mk_tup (ARel.nil G)

theorem ARel.getD {G : Ghost} {xs : List AVal} {cs : Array Value} (r : ARel G xs cs) (i : Nat) : VRel G (xs.getD i aundef) (cs.getD i undef) := by
  by_cases hi : i < xs.length
  · obtain ⟨v, h1, h2⟩ := r.get (List.getElem?_eq_getElem hi)
    rw [List.getD_eq_getElem?_getD, List.getElem?_eq_getElem hi, Array.getD_eq_getD_getElem?, h1]
    exact h2
  · rw [List.getD_eq_getElem?_getD, List.getElem?_eq_none (Nat.le_of_not_lt hi), Array.getD_eq_getD_getElem?, Array.getElem?_eq_none (by rw [← r.len]; exact Nat.le_of_not_lt hi)]
    exact undef_rel G

/-- A list that has room, as a row. -/
def AVal.down : AVal → AVal
  | .vlist _ s n len => .mlist s n 0 len
  | v => v
theorem VRel.down {G : Ghost} {x : AVal} {v : Value} (h : VRel G x v) : VRel G x.down v := by
  cases h with
  | vlist e s n len b cap tot hn hH hcap hroom => exact .mlist s n 0 len b cap hn hcap
  | bool b => exact .bool b
  | int k n => exact .int k n
  | str s => exact .str s
  | nils => exact .nils
  | list s xs tok b o cap f hcap hs hI hv ht => exact .list s xs tok b o cap f hcap hs hI hv ht
  | list0 s tok a cap ht => exact .list0 s tok a cap ht
  | mlist s n off len b cap hn hcap => exact .mlist s n off len b cap hn hcap
  | ptr n off b hn => exact .ptr n off b hn
  | iptr cs off b o f hI hv => exact .iptr cs off b o f hI hv
  | nilp => exact .nilp
  | fn f first caps fs cs hf hc vf vc => exact .fn f first caps fs cs hf hc vf vc
  | nilfn => exact .nilfn
  | agg xs cs hl hv => exact .agg xs cs hl hv
  | tup xs cs hl hv => exact .tup xs cs hl hv
  | map n b hn => exact .map n b hn
  | nilm => exact .nilm
  | yld n l hn => exact .yld n l hn
  | nili => exact .nili
  | errv t x => exact .errv t x
  | flt k n => exact .flt k n
  | cpx k n m => exact .cpx k n m
@[simp] theorem down_nils : AVal.nils.down = .nils := rfl
@[simp] theorem down_list (s : Nat) (xs : List AVal) (t : Option Nat) : (AVal.list s xs t).down = .list s xs t := rfl
@[simp] theorem down_mlist (s n o l : Nat) : (AVal.mlist s n o l).down = .mlist s n o l := rfl
@[simp] theorem down_vlist (e s n l : Nat) : (AVal.vlist e s n l).down = .mlist s n 0 l := rfl

/-- Some first cells of a block. -/
structure PRel (G : Ghost) (xs : List AVal) (cs : Array Value) : Prop where
  len : xs.length ≤ cs.size
  val : ∀ (i : Nat) (x : AVal) (v : Value), xs[i]? = some x → cs[i]? = some v → VRel G x v
theorem ARel.toP {G : Ghost} {xs : List AVal} {cs : Array Value} (r : ARel G xs cs) : PRel G xs cs := ⟨Nat.le_of_eq r.len, r.val⟩
theorem PRel.mono {G G' : Ghost} (h : G.le G') {xs : List AVal} {cs : Array Value} (r : PRel G xs cs) : PRel G' xs cs := ⟨r.len, fun i x v a b => (r.val i x v a b).mono h⟩
theorem PRel.get {G : Ghost} {xs : List AVal} {cs : Array Value} (r : PRel G xs cs) {i : Nat} {x : AVal} (h : xs[i]? = some x) : ∃ v, cs[i]? = some v ∧ VRel G x v := by
  have hi : i < xs.length := (List.getElem?_eq_some_iff.1 h).1
  have := r.len
  exact ⟨cs[i], Array.getElem?_eq_getElem (by omega), r.val i x _ h (Array.getElem?_eq_getElem (by omega))⟩
theorem PRel.set {G : Ghost} {xs : List AVal} {cs : Array Value} (r : PRel G xs cs) {x : AVal} {v : Value} (h : VRel G x v) (i : Nat) : PRel G (xs.set i x) (cs.setIfInBounds i v) := by
  refine ⟨by simpa using r.len, fun j y u h1 h2 => ?_⟩
  have hlen := r.len
  by_cases hij : i = j
  · subst hij
    by_cases hi : i < xs.length
    · rw [List.getElem?_set_self hi] at h1
      rw [Array.getElem?_setIfInBounds_self_of_lt (by omega)] at h2
      cases h1; cases h2; exact h
    · rw [List.getElem?_eq_none (by simpa using Nat.le_of_not_lt hi)] at h1; cases h1
  · rw [List.getElem?_set_ne hij] at h1
    rw [Array.getElem?_setIfInBounds_ne hij] at h2
    exact r.val j y u h1 h2

/-- How a loop's record stands. -/
inductive StRel : LSt → LoopState → Option Code → Prop
  | ready : StRel .ready .ready none
  | busy : StRel .busy .busy none
  | ret : StRel (.done .ret) .done (some .ret)
  | exit (id : Nat) : StRel (.done (.exit id)) .done (some (.exit id))

def OthRel (G : Ghost) : OObj → Obj → Prop
  | .map es, ob => ∃ ents : Array MapEntry, ob = .map ents ents.size ∧ es.length = ents.size ∧ (∀ (i : Nat) (p : AVal × AVal) (e : MapEntry), es[i]? = some p → ents[i]? = some e → VRel G p.1 e.key ∧ VRel G p.2 e.val) ∧ ∀ (i : Nat) (e : MapEntry), ents[i]? = some e → e.born = i
  | .iter none _ _, ob => ob = .mapIter none 0 #[] 0
  | .iter (some m) since seen, ob => ∃ b, ob = .mapIter (some b) since seen.toArray since ∧ G.ρ m = some b
  | .loop st tm ps a b, ob => ∃ r : Loop, ob = .loop r ∧ StRel st r.state r.pending ∧ ARel G tm r.tmps ∧ r.params.toList = ps ∧ G.cr r.assign a ∧ G.cr r.body b
theorem OthRel.mono {G G' : Ghost} (h : G.le G') {x : OObj} {ob : Obj} (r : OthRel G x ob) : OthRel G' x ob := by
  cases x with
  | map es =>
    obtain ⟨ents, h1, h2, h3, h4⟩ := r
    exact ⟨ents, h1, h2, fun i p e e1 e2 => ⟨(h3 i p e e1 e2).1.mono h, (h3 i p e e1 e2).2.mono h⟩, h4⟩
  | iter m since seen =>
    cases m with
    | none => exact r
    | some m => obtain ⟨b, h1, h2⟩ := r; exact ⟨b, h1, h.ρ h2⟩
  | loop st tm ps a b =>
    obtain ⟨r, h1, h2, h3, h4, h5, h6⟩ := r
    exact ⟨r, h1, h2, h3.mono h, h4, by rw [h.cr]; exact h5, by rw [h.cr]; exact h6⟩
theorem OthRel.not_cells {G : Ghost} {x : OObj} {ob : Obj} (r : OthRel G x ob) : (∀ c t f, ob ≠ .cells c t f) := by
  cases x with
  | map es => obtain ⟨ents, h1, _⟩ := r; intro c t f h; rw [h1] at h; cases h
  | iter m since seen =>
    intro c t f h
    cases m with
    | none => rw [show ob = _ from r] at h; cases h
    | some m => obtain ⟨b, h1, _⟩ := r; rw [h1] at h; cases h
  | loop st tm ps a b => obtain ⟨r, h1, _⟩ := r; intro c t f h; rw [h1] at h; cases h
end Go.Proofs.Ytgijgcmcpgepaaa.Eng
