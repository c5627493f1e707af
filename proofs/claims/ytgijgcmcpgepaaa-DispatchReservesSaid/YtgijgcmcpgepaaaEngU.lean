/-
  ENGINE, U: from arguments to values without addresses; from a run to a row.
-/
import Derived.Test.YtgijgcmcpgepaaaEngT
import Derived.ChangeStays
import Derived.OpenShut
import Derived.ChangeSame
import Derived.ProofKit
import Derived.JoinedOf
import Derived.Handed
namespace Go.Proofs.Ytgijgcmcpgepaaa.Eng
open Go.RowKit Go.ChangeShapes Go.WideShapes
set_option linter.unusedSimpArgs false
set_option linter.unusedVariables false

/-- Cells of fields behind one another. -/
def offs (P : Program) : List Field → Nat → Nat → Bool
  | [], k, n => Nat.beq k n
  | f :: l, k, n => Nat.beq f.offset k && offs P l (k + P.cellsOf f.type) n
/-- A type of plain data. -/
def plain (P : Program) : Nat → TypeId → Bool
  | 0, _ => false
  | d + 1, t => match P.underlying t with
    | some .bool | some (.int _) | some .string => Nat.beq (P.cellsOf t) 1
    | some (.slice e) => Nat.beq (P.cellsOf t) 1 && Nat.blt 0 (P.cellsOf e) && plain P d e
    | some (.struct fs) => offs P fs.toList 0 (P.cellsOf t) && fs.toList.all fun f => plain P d f.type
    | some (.array n e) => Nat.beq (P.cellsOf t) (n * P.cellsOf e) && plain P d e
    | _ => false

/-- A value of a type. -/
inductive HasV (P : Program) : TypeId → AVal → Prop
  | int (t : TypeId) (k : IntKind) (n : Int) : P.underlying t = some (.int k) → (Lit.int k n).wf = true → HasV P t (.int k n)
  | bool (t : TypeId) (b : Bool) : P.underlying t = some .bool → HasV P t (.bool b)
  | str (t : TypeId) (s : ByteArray) : P.underlying t = some .string → s.size ≤ maxLen → HasV P t (.str s)
  | nils (t e : TypeId) : P.underlying t = some (.slice e) → HasV P t .nils
  | list (t e : TypeId) (xs : List AVal) : P.underlying t = some (.slice e) → xs.length ≤ maxLen → (∀ (i : Nat) (x : AVal), xs[i]? = some x → HasV P e x) → HasV P t (.list (P.cellsOf e) xs none)
  | struct (t : TypeId) (fs : Array Field) (vs : List AVal) : P.underlying t = some (.struct fs) → vs.length = fs.toList.length → (∀ (i : Nat) (f : Field) (x : AVal), fs.toList[i]? = some f → vs[i]? = some x → HasV P f.type x) → HasV P t (.agg (vs.flatMap AVal.cells))
  | array (t e : TypeId) (n : Nat) (vs : List AVal) : P.underlying t = some (.array n e) → vs.length = n → (∀ (i : Nat) (x : AVal), vs[i]? = some x → HasV P e x) → HasV P t (.agg (vs.flatMap AVal.cells))

def ghostOf (w : World) : Ghost := ⟨fun b o => w.cell? ⟨b, o, none⟩, fun _ => none, fun _ _ => none, fun _ _ => False⟩
theorem core_of (w : World) : Core (ghostOf w) (fun _ => none) w := ⟨fun _ _ _ h => h, fun _ _ h => (by cases h), fun n m b h1 _ => (by
  rcases h1 with ⟨cs, e, _⟩ | ⟨_, _, _, _, e, _⟩ | ⟨_, e, _⟩ <;> cases e)⟩

section
variable {H : Type} {enc : TypeId × Value → H} {P : Program} {w : World}

/-- Parts behind one another. -/
theorem seg_rel {G : Ghost} : ∀ (fl : List Field) (k n : Nat) (cs : List Value), offs P fl k n = true → cs.length = n → k ≤ n → (∀ (i : Nat) (f : Field), fl[i]? = some f → ∃ av, HasV P f.type av ∧ ARel G av.cells ((cs.drop f.offset).take (P.cellsOf f.type)).toArray ∧ ((cs.drop f.offset).take (P.cellsOf f.type)).length = P.cellsOf f.type) →
    ∃ vs : List AVal, vs.length = fl.length ∧ (∀ (i : Nat) (f : Field) (x : AVal), fl[i]? = some f → vs[i]? = some x → HasV P f.type x) ∧ ARel G (vs.flatMap AVal.cells) (cs.drop k).toArray
  | [], k, n, cs, ho, hl, _, _ => by
    simp only [offs] at ho
    rw [Nat.beq_eq] at ho
    refine ⟨[], rfl, fun i f x h => by simp at h, ?_⟩
    have : cs.drop k = [] := List.drop_eq_nil_of_le (by omega)
    rw [this]; exact ARel.nil G
  | f :: fl, k, n, cs, ho, hl, hk, h => by
    simp only [offs, Bool.and_eq_true] at ho
    have hoff : f.offset = k := by have := ho.1; rwa [Nat.beq_eq] at this
    obtain ⟨av, h1, h2, h3⟩ := h 0 f rfl
    rw [hoff] at h2 h3
    have hle : k + P.cellsOf f.type ≤ n := by simp at h3; omega
    obtain ⟨vs, k1, k2, k3⟩ := seg_rel fl (k + P.cellsOf f.type) n cs ho.2 hl hle (fun i g hg => h (i + 1) g (by simpa using hg))
    refine ⟨av :: vs, by simp [k1], fun i g x hg hx => ?_, ?_⟩
    · cases i with
      | zero => simp at hg hx; subst hg; subst hx; exact h1
      | succ i => exact k2 i g x (by simpa using hg) (by simpa using hx)
    · have e : cs.drop k = (cs.drop k).take (P.cellsOf f.type) ++ cs.drop (k + P.cellsOf f.type) := by
        rw [← List.drop_drop, List.take_append_drop]
      rw [List.flatMap_cons, e]
      have := h2.append k3
      simpa using this

/-- Equal parts behind one another. -/
theorem seg_array {G : Ghost} {e : TypeId} : ∀ (n k : Nat) (cs : List Value), cs.length = (k + n) * P.cellsOf e → (∀ (i : Nat), i < k + n → ∃ av, HasV P e av ∧ ARel G av.cells ((cs.drop (i * P.cellsOf e)).take (P.cellsOf e)).toArray ∧ ((cs.drop (i * P.cellsOf e)).take (P.cellsOf e)).length = P.cellsOf e) →
    ∃ vs : List AVal, vs.length = n ∧ (∀ (i : Nat) (x : AVal), vs[i]? = some x → HasV P e x) ∧ ARel G (vs.flatMap AVal.cells) (cs.drop (k * P.cellsOf e)).toArray
  | 0, k, cs, hl, _ => by
    refine ⟨[], rfl, fun i x h => by simp at h, ?_⟩
    have : cs.drop (k * P.cellsOf e) = [] := List.drop_eq_nil_of_le (by rw [hl]; simp)
    rw [this]; exact ARel.nil G
  | n + 1, k, cs, hl, h => by
    obtain ⟨av, h1, h2, h3⟩ := h k (by omega)
    obtain ⟨vs, k1, k2, k3⟩ := seg_array n (k + 1) cs (by rw [hl]; congr 1; omega) (fun i hi => h i (by omega))
    refine ⟨av :: vs, by simp [k1], fun i x hx => ?_, ?_⟩
    · cases i with
      | zero => simp at hx; subst hx; exact h1
      | succ i => exact k2 i x (by simpa using hx)
    · have e' : cs.drop (k * P.cellsOf e) = (cs.drop (k * P.cellsOf e)).take (P.cellsOf e) ++ cs.drop ((k + 1) * P.cellsOf e) := by
        rw [Nat.succ_mul, ← List.drop_drop, List.take_append_drop]
      rw [List.flatMap_cons, e']
      have := h2.append k3
      simpa using this

theorem trod_has : ∀ (d : Nat) (t : TypeId), plain P d t = true → ∀ (fuel : Nat) (cs : List Value) (x : DataW H × List MemPlace), DataW.trod enc P w 0 (fun _ => true) true fuel t cs = some x →
    cs.length = P.cellsOf t ∧ ∃ av, HasV P t av ∧ ARel (ghostOf w) av.cells cs.toArray
  | 0, t, hp, _, _, _, _ => by simp [plain] at hp
  | d + 1, t, hp, fuel, cs, x, h => by
    simp only [plain] at hp
    split at hp <;> try (cases hp; done)
    · rename_i ht
      obtain ⟨b, rfl, _⟩ := DataW.trod_bool ht h
      rw [Nat.beq_eq] at hp
      exact ⟨by rw [hp]; rfl, .bool b, .bool t b ht, ARel.single (.bool b)⟩
    · rename_i k ht
      obtain ⟨n, rfl, _, hw⟩ := DataW.trod_int ht h
      rw [Nat.beq_eq] at hp
      exact ⟨by rw [hp]; rfl, .int k n, .int t k n ht hw, ARel.single (.int k n)⟩
    · rename_i ht
      obtain ⟨s, rfl, _, hs⟩ := DataW.trod_string ht h
      rw [Nat.beq_eq] at hp
      exact ⟨by rw [hp]; rfl, .str s, .str t s ht hs, ARel.single (.str s)⟩
    · rename_i e ht
      simp only [Bool.and_eq_true] at hp
      obtain ⟨⟨h1, h2⟩, hpe⟩ := hp
      rw [Nat.beq_eq] at h1
      have h2' : 0 < P.cellsOf e := by simpa using h2
      rcases DataW.trod_slice ht h with ⟨rfl, _⟩ | ⟨a, len, cap, elems, rest, n, _, rfl, _, _, hlc, hcap, hlen, hel, hsp, _⟩
      · exact ⟨by rw [h1]; rfl, .nils, .nils t e ht, ARel.single .nils⟩
      · refine ⟨by rw [h1]; rfl, ?_⟩
        by_cases hl0 : len = 0
        · subst hl0
          exact ⟨.list (P.cellsOf e) [] none, .list t e [] ht (by simp) (fun i x hx => by simp at hx), ARel.single (.list0 _ none a cap (fun _ h => by cases h))⟩
        · have key : ∀ i, i < len → ∃ (cs' : List Value) (av : AVal), cs'.length = P.cellsOf e ∧ (∀ j, j < P.cellsOf e → w.cell? (a.add (i * P.cellsOf e + j)) = cs'[j]?) ∧ HasV P e av ∧ ARel (ghostOf w) av.cells cs'.toArray := fun i hi => by
            have hb := hel i hi
            have hsome : elems[i]? = some (elems[i]'(by omega)) := List.getElem?_eq_getElem (by omega)
            rw [hsome] at hb
            obtain ⟨cs', hc, ht'⟩ := Option.bind_eq_some_iff.1 hb
            obtain ⟨_, q1, q2⟩ := World.cells?_some hc
            obtain ⟨q3, av, q4, q5⟩ := trod_has d e hpe n cs' _ ht'
            refine ⟨cs', av, q1, fun j hj => ?_, q4, q5⟩
            have := q2 j hj
            rw [← this]
            congr 1
            unfold Addr.add
            by_cases hz : i * P.cellsOf e = 0
            · simp [hz]
            · by_cases hj0 : j = 0
              · simp [hz, hj0]
              · simp [hz, hj0]; omega
          have hspot : a.spot = none := by
            obtain ⟨cs', av, q1, q2, _⟩ := key 0 (by omega)
            have h0 := q2 0 h2'
            simp only [Nat.zero_mul, Nat.zero_add] at h0
            have : (w.cell? a).isSome = true := by
              have e0 : a.add 0 = a := by simp [Addr.add]
              rw [e0] at h0
              rw [h0, List.getElem?_eq_getElem (by omega)]; rfl
            unfold World.cell? at this
            split at this
            · split at this
              · cases this
              · rename_i hs; simpa using hs
            · cases this
          obtain ⟨b, o, sp⟩ := a
          simp only at hspot
          subst hspot
          let av : Nat → AVal := fun i => if hi : i < len then Classical.choose (Classical.choose_spec (key i hi)) else .nils
          let cv : Nat → List Value := fun i => if hi : i < len then Classical.choose (key i hi) else []
          have spec : ∀ i, i < len → (cv i).length = P.cellsOf e ∧ (∀ j, j < P.cellsOf e → w.cell? ((⟨b, o, none⟩ : Addr).add (i * P.cellsOf e + j)) = (cv i)[j]?) ∧ HasV P e (av i) ∧ ARel (ghostOf w) (av i).cells (cv i).toArray := fun i hi => by
            simp only [av, cv, hi, dif_pos]
            exact Classical.choose_spec (Classical.choose_spec (key i hi))
          have hget : ∀ (i : Nat) (x : AVal), ((List.range len).map av)[i]? = some x → i < len ∧ x = av i := fun i x hx => by
            have hi : i < len := by
              have := (List.getElem?_eq_some_iff.1 hx).1
              simpa using this
            rw [List.getElem?_map, List.getElem?_range hi] at hx
            exact ⟨hi, (Option.some.inj hx).symm⟩
          refine ⟨.list (P.cellsOf e) ((List.range len).map av) none, .list t e _ ht (by simp; omega) (fun i x hx => ?_), ARel.single ?_⟩
          · obtain ⟨hi, rfl⟩ := hget i x hx
            exact (spec i hi).2.2.1
          · have hll : ((List.range len).map av).length = len := by simp
            have : VRel (ghostOf w) (.list (P.cellsOf e) ((List.range len).map av) none) (.slice (some ⟨b, o, none⟩) ((List.range len).map av).length cap) := by
              refine .list _ _ none b o cap (fun i j => ((cv i)[j]?).getD undef) (by rw [hll]; exact hlc) (fun i x hx => ?_) (fun i x j c hx hc => ?_) (fun i x j c hx hc => ?_) (fun _ h => by cases h)
              · obtain ⟨hi, rfl⟩ := hget i x hx
                obtain ⟨s1, _, _, s4⟩ := spec i hi
                rw [s4.len]; simpa using s1
              · obtain ⟨hi, rfl⟩ := hget i x hx
                obtain ⟨s1, s2, _, s4⟩ := spec i hi
                obtain ⟨v, e1, e2⟩ := s4.get hc
                have hj : j < P.cellsOf e := by
                  have := (List.getElem?_eq_some_iff.1 hc).1
                  rw [s4.len] at this; simpa [s1] using this
                have := s2 j hj
                rw [addr_add] at this
                have hcv : (cv i)[j]? = some v := by simpa using e1
                show w.cell? ⟨b, o + i * P.cellsOf e + j, none⟩ = _
                rw [show o + i * P.cellsOf e + j = o + (i * P.cellsOf e + j) from by omega, this, hcv]; rfl
              · obtain ⟨hi, rfl⟩ := hget i x hx
                obtain ⟨s1, s2, _, s4⟩ := spec i hi
                obtain ⟨v, e1, e2⟩ := s4.get hc
                have hcv : (cv i)[j]? = some v := by simpa using e1
                rw [hcv]; exact e2
            rw [hll] at this
            exact this
    · rename_i fs ht
      simp only [Bool.and_eq_true] at hp
      obtain ⟨xs, n, _, _, hcl, hxl, hf⟩ := DataW.trod_struct ht h
      refine ⟨hcl, ?_⟩
      obtain ⟨vs, k1, k2, k3⟩ := seg_rel (G := ghostOf w) fs.toList 0 (P.cellsOf t) cs hp.1 hcl (Nat.zero_le _) (fun i f hfi => by
        have hfa : fs[i]? = some f := by simpa using hfi
        have hi : i < fs.size := (Array.getElem?_eq_some_iff.1 hfa).1
        have h1 := hf i f hfa
        rw [List.getElem?_eq_getElem (by omega)] at h1
        have hpf := List.all_eq_true.1 hp.2 f (List.mem_of_getElem? hfi)
        obtain ⟨q1, av, q2, q3⟩ := trod_has d f.type hpf n _ _ h1
        exact ⟨av, q2, q3, q1⟩)
      exact ⟨.agg (vs.flatMap AVal.cells), .struct t fs vs ht k1 k2, by simpa [AVal.cells] using k3⟩
    · rename_i n e ht
      simp only [Bool.and_eq_true] at hp
      rw [Nat.beq_eq] at hp
      obtain ⟨xs, m, _, _, hcl, hxl, hf⟩ := DataW.trod_array ht h
      refine ⟨hcl, ?_⟩
      obtain ⟨vs, k1, k2, k3⟩ := seg_array (G := ghostOf w) (P := P) (e := e) n 0 cs (by rw [hcl, hp.1, Nat.zero_add]) (fun i hi => by
        have h1 := hf i (by omega)
        rw [List.getElem?_eq_getElem (by omega)] at h1
        obtain ⟨q1, av, q2, q3⟩ := trod_has d e hp.2 m _ _ h1
        exact ⟨av, q2, q3, q1⟩)
      exact ⟨.agg (vs.flatMap AVal.cells), .array t e n vs ht k1 k2, by simpa [AVal.cells] using k3⟩
end
end Go.Proofs.Ytgijgcmcpgepaaa.Eng
