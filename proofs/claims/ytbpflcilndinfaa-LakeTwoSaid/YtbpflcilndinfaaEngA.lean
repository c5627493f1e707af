/-
  ENGINE, A: values without addresses, and how they stand for the machine's values.
-/
import Derived.Calls
import Derived.Orders
import Derived.Below
namespace Go.Proofs.Ytbpflcilndinfaa.Eng
set_option linter.unusedSimpArgs false
set_option linter.unusedVariables false

/-- A value whose lists are their elements. -/
inductive AVal where
  | bool (b : Bool)
  | int (k : IntKind) (n : Int)
  | str (s : ByteArray)
  | nils
  | list (s : Nat) (xs : List AVal) (tok : Option Nat)
  | mlist (s n off len : Nat)
  | ptr (n off : Nat)
  | iptr (cs : List AVal) (off : Nat)
  | nilp
  | fn (f : FuncId) (first caps : List AVal)
  | nilfn
  | agg (cs : List AVal)
  | tup (vs : List AVal)
  deriving Inhabited

def AVal.cells : AVal → List AVal
  | .agg cs => cs
  | v => [v]

/-- What is known of memory: cells that stay for ever, the blocks of names, the blocks that a growing list has had by its length. -/
structure Ghost where
  imm : Nat → Nat → Option Value
  ρ : Nat → Option Nat
  H : Nat → Nat → Option (Nat × Nat)

structure Ghost.le (G G' : Ghost) : Prop where
  imm : ∀ {b o v}, G.imm b o = some v → G'.imm b o = some v
  ρ : ∀ {n b}, G.ρ n = some b → G'.ρ n = some b
  H : ∀ {k l x}, G.H k l = some x → G'.H k l = some x

theorem Ghost.le.refl (G : Ghost) : G.le G := ⟨id, id, id⟩
theorem Ghost.le.trans {G G' G'' : Ghost} (h : G.le G') (h' : G'.le G'') : G.le G'' :=
  ⟨fun x => h'.imm (h.imm x), fun x => h'.ρ (h.ρ x), fun x => h'.H (h.H x)⟩

inductive VRel (G : Ghost) : AVal → Value → Prop where
  | bool (b : Bool) : VRel G (.bool b) (.bool b)
  | int (k : IntKind) (n : Int) : VRel G (.int k n) (.int k n)
  | str (s : ByteArray) : VRel G (.str s) (.string s)
  | nils : VRel G .nils (.slice none 0 0)
  | list (s : Nat) (xs : List AVal) (tok : Option Nat) (b o cap : Nat) (f : Nat → Nat → Value)
      (hcap : xs.length ≤ cap)
      (hs : ∀ (i : Nat) (x : AVal), xs[i]? = some x → x.cells.length = s)
      (hI : ∀ (i : Nat) (x : AVal) (j : Nat) (c : AVal), xs[i]? = some x → x.cells[j]? = some c → G.imm b (o + i * s + j) = some (f i j))
      (hv : ∀ (i : Nat) (x : AVal) (j : Nat) (c : AVal), xs[i]? = some x → x.cells[j]? = some c → VRel G c (f i j))
      (ht : ∀ k, tok = some k → o = 0 ∧ G.H k xs.length = some (b, cap)) :
      VRel G (.list s xs tok) (.slice (some ⟨b, o, none⟩) xs.length cap)
  | list0 (s : Nat) (a : Addr) (cap : Nat) : VRel G (.list s [] none) (.slice (some a) 0 cap)
  | mlist (s n off len b cap : Nat) (hn : G.ρ n = some b) (hcap : len ≤ cap) : VRel G (.mlist s n off len) (.slice (some ⟨b, off, none⟩) len cap)
  | ptr (n off b : Nat) (hn : G.ρ n = some b) : VRel G (.ptr n off) (.pointer (some ⟨b, off, none⟩))
  | iptr (cs : List AVal) (off b o : Nat) (f : Nat → Value)
      (hI : ∀ (j : Nat) (c : AVal), cs[j]? = some c → G.imm b (o + j) = some (f j))
      (hv : ∀ (j : Nat) (c : AVal), cs[j]? = some c → VRel G c (f j)) :
      VRel G (.iptr cs off) (.pointer (some ⟨b, o + off, none⟩))
  | nilp : VRel G .nilp (.pointer none)
  | fn (f : FuncId) (first caps : List AVal) (fs cs : Array Value) (hf : first.length = fs.size) (hc : caps.length = cs.size)
      (vf : ∀ (i : Nat) (x : AVal) (v : Value), first[i]? = some x → fs[i]? = some v → VRel G x v)
      (vc : ∀ (i : Nat) (x : AVal) (v : Value), caps[i]? = some x → cs[i]? = some v → VRel G x v) :
      VRel G (.fn f first caps) (.func (.func f) fs cs)
  | nilfn : VRel G .nilfn .nilFunc
  | agg (xs : List AVal) (cs : Array Value) (hl : xs.length = cs.size) (hv : ∀ (i : Nat) (x : AVal) (v : Value), xs[i]? = some x → cs[i]? = some v → VRel G x v) :
      VRel G (.agg xs) (.agg cs)
  | tup (xs : List AVal) (cs : Array Value) (hl : xs.length = cs.size) (hv : ∀ (i : Nat) (x : AVal) (v : Value), xs[i]? = some x → cs[i]? = some v → VRel G x v) :
      VRel G (.tup xs) (.tuple cs)

theorem VRel.mono {G G' : Ghost} (h : G.le G') {x : AVal} {v : Value} (r : VRel G x v) : VRel G' x v := by
  induction r with
  | bool b => exact .bool b
  | int k n => exact .int k n
  | str s => exact .str s
  | nils => exact .nils
  | list s xs tok b o cap f hcap hs hI hv ht ih => exact .list s xs tok b o cap f hcap hs (fun i x j c h1 h2 => h.imm (hI i x j c h1 h2)) ih (fun k hk => ⟨(ht k hk).1, h.H (ht k hk).2⟩)
  | list0 s a cap => exact .list0 s a cap
  | mlist s n off len b cap hn hcap => exact .mlist s n off len b cap (h.ρ hn) hcap
  | ptr n off b hn => exact .ptr n off b (h.ρ hn)
  | iptr cs off b o f hI hv ih => exact .iptr cs off b o f (fun j c h1 => h.imm (hI j c h1)) ih
  | nilp => exact .nilp
  | fn f first caps fs cs hf hc vf vc ihf ihc => exact .fn f first caps fs cs hf hc ihf ihc
  | nilfn => exact .nilfn
  | agg xs cs hl hv ih => exact .agg xs cs hl ih
  | tup xs cs hl hv ih => exact .tup xs cs hl ih

/-- Values one by one. -/
structure ARel (G : Ghost) (xs : List AVal) (cs : Array Value) : Prop where
  len : xs.length = cs.size
  val : ∀ (i : Nat) (x : AVal) (v : Value), xs[i]? = some x → cs[i]? = some v → VRel G x v

theorem ARel.mono {G G' : Ghost} (h : G.le G') {xs : List AVal} {cs : Array Value} (r : ARel G xs cs) : ARel G' xs cs := ⟨r.len, fun i x v a b => (r.val i x v a b).mono h⟩
theorem ARel.get {G : Ghost} {xs : List AVal} {cs : Array Value} (r : ARel G xs cs) {i : Nat} {x : AVal} (h : xs[i]? = some x) : ∃ v, cs[i]? = some v ∧ VRel G x v := by
  have hi : i < xs.length := (List.getElem?_eq_some_iff.1 h).1
  rw [r.len] at hi
  exact ⟨cs[i], Array.getElem?_eq_getElem hi, r.val i x _ h (Array.getElem?_eq_getElem hi)⟩
theorem ARel.nil (G : Ghost) : ARel G [] #[] := ⟨rfl, fun i x v h => by simp at h⟩
theorem VRel.of_agg {G : Ghost} {xs : List AVal} {v : Value} (h : VRel G (.agg xs) v) : ∃ cs, v = .agg cs ∧ ARel G xs cs := by
  cases h with | agg _ cs hl hv => exact ⟨cs, rfl, hl, hv⟩
theorem VRel.of_tup {G : Ghost} {xs : List AVal} {v : Value} (h : VRel G (.tup xs) v) : ∃ cs, v = .tuple cs ∧ ARel G xs cs := by
  cases h with | tup _ cs hl hv => exact ⟨cs, rfl, hl, hv⟩
theorem VRel.mk_agg {G : Ghost} {xs : List AVal} {cs : Array Value} (h : ARel G xs cs) : VRel G (.agg xs) (.agg cs) := .agg _ _ h.len h.val
theorem VRel.mk_tup {G : Ghost} {xs : List AVal} {cs : Array Value} (h : ARel G xs cs) : VRel G (.tup xs) (.tuple cs) := .tup _ _ h.len h.val

theorem ARel.single {G : Ghost} {x : AVal} {v : Value} (h : VRel G x v) : ARel G [x] #[v] :=
  ⟨rfl, fun i y u h1 h2 => by
    cases i with
    | zero => simp at h1 h2; subst h1; subst h2; exact h
    | succ i => simp at h1⟩

/-- The cells of a value, one by one. -/
theorem VRel.cells {G : Ghost} {x : AVal} {v : Value} (h : VRel G x v) : ARel G x.cells v.cells := by
  cases h with
  | agg xs cs hl hv => exact ⟨hl, hv⟩
  | bool b => exact ARel.single (.bool b)
  | int k n => exact ARel.single (.int k n)
  | str s => exact ARel.single (.str s)
  | nils => exact ARel.single .nils
  | list s xs tok b o cap f hcap hs hI hv ht => exact ARel.single (.list s xs tok b o cap f hcap hs hI hv ht)
  | list0 s a cap => exact ARel.single (.list0 s a cap)
  | mlist s n off len b cap hn hcap => exact ARel.single (.mlist s n off len b cap hn hcap)
  | ptr n off b hn => exact ARel.single (.ptr n off b hn)
  | iptr cs off b o f hI hv => exact ARel.single (.iptr cs off b o f hI hv)
  | nilp => exact ARel.single .nilp
  | fn f first caps fs cs hf hc vf vc => exact ARel.single (.fn f first caps fs cs hf hc vf vc)
  | nilfn => exact ARel.single .nilfn
  | tup xs cs hl hv => exact ARel.single (.tup xs cs hl hv)

theorem ARel.set {G : Ghost} {xs : List AVal} {cs : Array Value} (r : ARel G xs cs) {x : AVal} {v : Value} (h : VRel G x v) (i : Nat) : ARel G (xs.set i x) (cs.setIfInBounds i v) := by
  refine ⟨by simp [r.len], fun j y u h1 h2 => ?_⟩
  by_cases hij : i = j
  · subst hij
    by_cases hi : i < xs.length
    · rw [List.getElem?_set_self hi] at h1
      rw [Array.getElem?_setIfInBounds_self_of_lt (by rw [← r.len]; exact hi)] at h2
      cases h1; cases h2; exact h
    · rw [List.getElem?_eq_none (by simpa using Nat.le_of_not_lt hi)] at h1; cases h1
  · rw [List.getElem?_set_ne hij] at h1
    rw [Array.getElem?_setIfInBounds_ne hij] at h2
    exact r.val j y u h1 h2

def aundef : AVal := .tup []
theorem undef_rel (G : Ghost) : VRel G aundef undef := VRel.mk_tup (ARel.nil G)

theorem ARel.getD {G : Ghost} {xs : List AVal} {cs : Array Value} (r : ARel G xs cs) (i : Nat) : VRel G (xs.getD i aundef) (cs.getD i undef) := by
  by_cases hi : i < xs.length
  · obtain ⟨v, h1, h2⟩ := r.get (List.getElem?_eq_getElem hi)
    rw [List.getD_eq_getElem?_getD, List.getElem?_eq_getElem hi, Array.getD_eq_getD_getElem?, h1]
    exact h2
  · rw [List.getD_eq_getElem?_getD, List.getElem?_eq_none (Nat.le_of_not_lt hi), Array.getD_eq_getD_getElem?, Array.getElem?_eq_none (by rw [← r.len]; exact Nat.le_of_not_lt hi)]
    exact undef_rel G
end Go.Proofs.Ytbpflcilndinfaa.Eng
