/-
  ENGINE: calls that are known are given as a table.
-/
import Derived.Test.YtgijgcmcpgepaaaEngAw
namespace Go.Proofs.Ytgijgcmcpgepaaa.Eng
set_option linter.unusedSimpArgs false
set_option linter.unusedVariables false
mutual
def aeq : AVal → AVal → Bool
  | .bool a, .bool b => a == b
  | .int k a, .int l b => decide (k = l) && decide (a = b)
  | .str a, .str b => decide (a.data.toList = b.data.toList)
  | .nils, .nils => true
  | .list s xs none, .list t ys none => decide (s = t) && aeqL xs ys
  | .nilp, .nilp => true
  | .fn f a b, .fn g c d => decide (f = g) && aeqL a c && aeqL b d
  | .nilfn, .nilfn => true
  | .agg xs, .agg ys => aeqL xs ys
  | .tup xs, .tup ys => aeqL xs ys
  | _, _ => false
def aeqL : List AVal → List AVal → Bool
  | [], [] => true
  | x :: l, y :: m => aeq x y && aeqL l m
  | _, _ => false
end
mutual
theorem aeq_eq : ∀ {x y : AVal}, aeq x y = true → x = y
  | .bool a, y, h => by
    cases y <;> simp [aeq] at h; subst h; rfl
  | .int k a, y, h => by
    cases y <;> simp [aeq] at h; obtain ⟨rfl, rfl⟩ := h; rfl
  | .str a, y, h => by
    cases y <;> simp [aeq] at h
    rename_i b
    obtain ⟨⟨l⟩⟩ := a
    obtain ⟨⟨m⟩⟩ := b
    simp at h; subst h; rfl
  | .nils, y, h => by cases y <;> simp [aeq] at h; rfl
  | .list s xs none, y, h => by
    cases y <;> try (simp [aeq] at h; done)
    rename_i t ys tok
    cases tok with
    | some k => simp [aeq] at h
    | none =>
      simp only [aeq, Bool.and_eq_true, decide_eq_true_eq] at h
      obtain ⟨rfl, h2⟩ := h
      rw [aeqL_eq h2]
  | .list s xs (some k), y, h => by cases y <;> simp [aeq] at h
  | .nilp, y, h => by cases y <;> simp [aeq] at h; rfl
  | .fn f a b, y, h => by
    cases y <;> try (simp [aeq] at h; done)
    simp only [aeq, Bool.and_eq_true, decide_eq_true_eq] at h
    obtain ⟨⟨rfl, h2⟩, h3⟩ := h
    rw [aeqL_eq h2, aeqL_eq h3]
  | .nilfn, y, h => by cases y <;> simp [aeq] at h; rfl
  | .agg xs, y, h => by
    cases y <;> try (simp [aeq] at h; done)
    simp only [aeq] at h
    rw [aeqL_eq h]
  | .tup xs, y, h => by
    cases y <;> try (simp [aeq] at h; done)
    simp only [aeq] at h
    rw [aeqL_eq h]
  | .mlist .., y, h => by simp [aeq] at h
  | .ptr .., y, h => by simp [aeq] at h
  | .iptr .., y, h => by simp [aeq] at h
  | .map _, y, h => by simp [aeq] at h
  | .nilm, y, h => by simp [aeq] at h
  | .yld _, y, h => by simp [aeq] at h
  | .nili, y, h => by simp [aeq] at h
  | .errv, y, h => by simp [aeq] at h
  | .vlist .., y, h => by simp [aeq] at h
  | .flt .., y, h => by simp [aeq] at h
  | .cpx .., y, h => by simp [aeq] at h
theorem aeqL_eq : ∀ {x y : List AVal}, aeqL x y = true → x = y
  | [], [], _ => rfl
  | [], _ :: _, h => by simp [aeqL] at h
  | _ :: _, [], h => by simp [aeqL] at h
  | x :: l, y :: m, h => by
    simp only [aeqL, Bool.and_eq_true] at h
    rw [aeq_eq h.1, aeqL_eq h.2]
end
def isUndef : AVal → Bool
  | .tup [] => true
  | _ => false
abbrev Tab := List (List AVal × AVal)
def isInt : AVal → Bool
  | .int .. => true
  | _ => false
/-- Numbers are compared first: it is quick. -/
def same (tm : List AVal) (p : List AVal × AVal) : Bool := aeqL (tm.filter isInt) (p.1.filter isInt) && aeqL tm p.1
theorem same_eq {tm : List AVal} {p : List AVal × AVal} (h : same tm p = true) : tm = p.1 := by
  unfold same at h
  simp only [Bool.and_eq_true] at h
  exact aeqL_eq h.2
def gTab (tab : Tab) (tm : List AVal) : Option AVal := (tab.find? (same tm)).map (·.2)
/-- What a table says is so. -/
structure RowOk (P : Program) (f : FuncId) (n : Nat) (p : List AVal × AVal) : Prop where
  len : p.1.length = n
  und : p.1.all (fun a => !isUndef a) = true
  free : p.2.free = true
  strip : p.2.strip = p.2
  ok : PureOk P f p.1 p.2
theorem row_ok {P : Program} {nofz : List FuncId} {X : FuncId → Option XFunc} (hm : P.follows .mixedOrders = true) (hX : Known P nofz X) {f : FuncId} {n m : Nat} {args : List AVal} {v : AVal} (h1 : (Nat.beq args.length n && args.all (fun a => !isUndef a) && v.free && aeq v.strip v && freeL (stripL args)) = true) (h : run X m (.call f) args Store.empty = some (.ret, [v], Store.empty)) : RowOk P f n (args, v) := by
  simp only [Bool.and_eq_true, Nat.beq_eq] at h1
  obtain ⟨⟨⟨⟨a1, a2⟩, a3⟩, a4⟩, a5⟩ := h1
  exact ⟨a1, a2, a3, aeq_eq a4, pure_of_known hm hX a5 ((Run_iff _ _ _ _ _).mpr ⟨_, h⟩)⟩
theorem tab_ok {P : Program} {f : FuncId} {n : Nat} {tab : Tab} (hn : 1 ≤ n) (h : ∀ p ∈ tab, RowOk P f n p) : 1 ≤ n ∧ ∀ args v, gTab tab (args ++ List.replicate (n - args.length) aundef) = some v → v.free = true ∧ v.strip = v ∧ PureOk P f args v := by
  refine ⟨hn, fun args v hg => ?_⟩
  unfold gTab at hg
  cases hf : tab.find? (same (args ++ List.replicate (n - args.length) aundef)) with
  | none => rw [hf] at hg; cases hg
  | some p =>
    rw [hf] at hg
    cases hg
    have r := h p (List.mem_of_find?_eq_some hf)
    have e := same_eq (List.find?_some hf)
    have hk : n - args.length = 0 := by
      cases hk : n - args.length with
      | zero => rfl
      | succ k =>
        exfalso
        rw [hk] at e
        have hm : aundef ∈ p.1 := by rw [← e]; simp [List.replicate_succ]
        have := List.all_eq_true.1 r.und _ hm
        simp [isUndef, aundef] at this
    rw [hk] at e
    have e' : args = p.1 := by simpa using e
    rw [e']
    exact ⟨r.free, r.strip, r.ok⟩
/-- Tables in place of functions. -/
def tabs (T : List (FuncId × Nat × Tab)) : List (FuncId × Nat × (List AVal → Option AVal)) := T.map fun q => (q.1, q.2.1, gTab q.2.2)
theorem tabs_ok {P : Program} {T : List (FuncId × Nat × Tab)} (h : ∀ q ∈ T, 1 ≤ q.2.1 ∧ ∀ p ∈ q.2.2, RowOk P q.1 q.2.1 p) : ∀ q ∈ tabs T, 1 ≤ q.2.1 ∧ ∀ args v, q.2.2 (args ++ List.replicate (q.2.1 - args.length) aundef) = some v → v.free = true ∧ v.strip = v ∧ PureOk P q.1 args v := by
  intro q hq
  obtain ⟨r, hr, rfl⟩ := List.mem_map.1 hq
  exact tab_ok (h r hr).1 (h r hr).2
theorem known_tabs {P : Program} {nofz : List FuncId} {T : List (FuncId × Nat × Tab)} (h : ∀ q ∈ T, 1 ≤ q.2.1 ∧ ∀ p ∈ q.2.2, RowOk P q.1 q.2.1 p) : Known P nofz (xprogG P nofz (tabs T)) := known_xprogG _ _ _ (tabs_ok h)
/-- A row, looked at by the kernel. -/
def rowB (X : FuncId → Option XFunc) (m : Nat) (f : FuncId) (n : Nat) (p : List AVal × AVal) : Bool :=
  Nat.beq p.1.length n && p.1.all (fun a => !isUndef a) && p.2.free && aeq p.2.strip p.2 && freeL (stripL p.1) && (match run X m (.call f) p.1 Store.empty with
    | some (.ret, [u], σ) => aeq u p.2 && σ.objs.isEmpty && Nat.beq σ.next 0
    | _ => false)
theorem row_of {P : Program} {nofz : List FuncId} {X : FuncId → Option XFunc} (hm : P.follows .mixedOrders = true) (hX : Known P nofz X) {f : FuncId} {n m : Nat} {p : List AVal × AVal} (h : rowB X m f n p = true) : RowOk P f n p := by
  unfold rowB at h
  simp only [Bool.and_eq_true, Nat.beq_eq] at h
  obtain ⟨⟨⟨⟨⟨a1, a2⟩, a3⟩, a4⟩, a5⟩, a6⟩ := h
  split at a6
  · rename_i u σ e
    simp only [Bool.and_eq_true, List.isEmpty_iff, Nat.beq_eq] at a6
    obtain ⟨⟨b1, b2⟩, b3⟩ := a6
    have b1 := aeq_eq b1
    subst b1
    cases σ
    simp only at b2 b3
    subst b2; subst b3
    exact ⟨a1, a2, a3, aeq_eq a4, pure_of_known hm hX a5 ((Run_iff _ _ _ _ _).mpr ⟨_, e⟩)⟩
  · cases a6
theorem rows_of {P : Program} {nofz : List FuncId} {X : FuncId → Option XFunc} (hm : P.follows .mixedOrders = true) (hX : Known P nofz X) {f : FuncId} {n m : Nat} {tab : Tab} (h : tab.all (rowB X m f n) = true) : ∀ p ∈ tab, RowOk P f n p :=
  fun p hp => row_of hm hX (List.all_eq_true.1 h p hp)
/-- The examples, where known calls are given. -/
def awB (X : FuncId → Option XFunc) (m : Nat) (aw : FuncId) : Bool := ((X aw).any fun xf => decide (1 ≤ xf.ntmps)) && (match run X m (.call aw) [] Store.empty with
  | some (.ret, [.bool b], σ) => b && σ.objs.isEmpty && Nat.beq σ.next 0
  | _ => false)
theorem known_aw {P : Program} {nofz nofz' : List FuncId} {X : FuncId → Option XFunc} {aw m : FuncId} (hm : P.follows .mixedOrders = true) (hX : Known P nofz X) (h : awB X m aw = true)
    (gs : List (FuncId × Nat × (List AVal → Option AVal))) (hgs : ∀ q ∈ gs, 1 ≤ q.2.1 ∧ ∀ args v, q.2.2 (args ++ List.replicate (q.2.1 - args.length) aundef) = some v → v.free = true ∧ v.strip = v ∧ PureOk P q.1 args v) : Known P nofz' (xprogG P nofz' ((aw, 1, gAw) :: gs)) := by
  unfold awB at h
  simp only [Bool.and_eq_true] at h
  obtain ⟨hn, h⟩ := h
  split at h
  · rename_i b σ e
    simp only [Bool.and_eq_true, List.isEmpty_iff, Nat.beq_eq] at h
    obtain ⟨⟨rfl, b2⟩, b3⟩ := h
    cases σ
    simp only at b2 b3
    subst b2; subst b3
    exact known_awake hm hX hn ((Run_iff _ _ _ _ _).mpr ⟨_, e⟩) gs hgs
  · cases h
end Go.Proofs.Ytgijgcmcpgepaaa.Eng
