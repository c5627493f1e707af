/-
  ENGINE: what a call hands back, sealed; lists of numbers that have room.
-/
import Derived.Test.YtgijgcmcpgepaaaEngLoop
namespace Go.Proofs.Ytgijgcmcpgepaaa.Eng
set_option linter.unusedSimpArgs false
set_option linter.unusedVariables false
section
variable {X : FuncId → Option XFunc}
def sealsO (τ : Store) (y : AVal) : Option AVal → Prop
  | some v => sealR τ v = some y
  | none => False
def sealsR (rs : List XRet) (y : AVal) : Option RRes → Prop
  | some (.ret, tm, τ) => sealsO τ y (xresult tm τ rs)
  | some (.normal, tm, τ) => sealsO τ y (xresult tm τ rs)
  | _ => False
@[simp] theorem sealsO_some (τ : Store) (y v : AVal) : sealsO τ y (some v) = (sealR τ v = some y) := rfl
@[simp] theorem sealsR_ret (rs : List XRet) (y : AVal) (tm : List AVal) (τ : Store) : sealsR rs y (some (.ret, tm, τ)) = sealsO τ y (xresult tm τ rs) := rfl
@[simp] theorem sealsR_normal (rs : List XRet) (y : AVal) (tm : List AVal) (τ : Store) : sealsR rs y (some (.normal, tm, τ)) = sealsO τ y (xresult tm τ rs) := rfl
/-- A body, from its arguments to its result, sealed. -/
def Seals (X : FuncId → Option XFunc) (xf : XFunc) (tm : List AVal) (y : AVal) : Prop := sealsR xf.results y (Run X (.code xf.body) tm Store.empty)
theorem call_seal {f : FuncId} {xf : XFunc} {args : List AVal} {y : AVal} (hx : X f = some xf) (hf : freeL (stripL args) = true)
    (h : Seals X xf (stripL args ++ List.replicate (xf.ntmps - (stripL args).length) aundef) y) (σ : Store) :
    Run X (.call f) args σ = some (.ret, [y], σ) := by
  have key : ∃ e tm τ v, Run X (.code xf.body) (stripL args ++ List.replicate (xf.ntmps - (stripL args).length) aundef) Store.empty = some (e, tm, τ) ∧ (e = .ret ∨ e = .normal) ∧ xresult tm τ xf.results = some v ∧ sealR τ v = some y := by
    unfold Seals at h
    rcases e : Run X (.code xf.body) (stripL args ++ List.replicate (xf.ntmps - (stripL args).length) aundef) Store.empty with _ | ⟨ex, tm, τ⟩
    · rw [e] at h; exact h.elim
    · rw [e] at h
      have fin : sealsO τ y (xresult tm τ xf.results) → ∃ v, xresult tm τ xf.results = some v ∧ sealR τ v = some y := fun h => by
        cases hr : xresult tm τ xf.results with
        | none => rw [hr] at h; exact h.elim
        | some v => rw [hr] at h; exact ⟨v, rfl, h⟩
      cases ex with
      | ret => obtain ⟨v, h1, h2⟩ := fin h; exact ⟨_, _, _, v, rfl, .inl rfl, h1, h2⟩
      | normal => obtain ⟨v, h1, h2⟩ := fin h; exact ⟨_, _, _, v, rfl, .inr rfl, h1, h2⟩
      | exit i => exact h.elim
  obtain ⟨e, tm, τ, v, h1, h2, h3, h4⟩ := key
  rw [Run_step]
  simp only [step, hx, hf, if_true, h1]
  rcases h2 with rfl | rfl <;> simp only [h3, h4]
theorem call1S {f : FuncId} {xf : XFunc} {a y : AVal} (hx : X f = some xf) (hf : a.strip.free = true) (hn : 1 ≤ xf.ntmps)
    (h : ∀ tm, tm.length = xf.ntmps → XOpd.eval tm (.t 0) = a.strip → Seals X xf tm y) (σ : Store) : Run X (.call f) [a] σ = some (.ret, [y], σ) := by
  refine call_seal hx (by simp [stripL, freeL, hf]) (h _ (by simp [stripL]; omega) ?_) σ
  rw [eval_frame _ _ _ (by simp [stripL])]; simp [stripL]
theorem call2S {f : FuncId} {xf : XFunc} {a b y : AVal} (hx : X f = some xf) (hf : a.strip.free = true) (hg : b.strip.free = true) (hn : 2 ≤ xf.ntmps)
    (h : ∀ tm, tm.length = xf.ntmps → XOpd.eval tm (.t 0) = a.strip → XOpd.eval tm (.t 1) = b.strip → Seals X xf tm y) (σ : Store) : Run X (.call f) [a, b] σ = some (.ret, [y], σ) := by
  refine call_seal hx (by simp [stripL, freeL, hf, hg]) (h _ (by simp [stripL]; omega) ?_ ?_) σ
  all_goals (rw [eval_frame _ _ _ (by simp [stripL])]; simp [stripL])
theorem call3S {f : FuncId} {xf : XFunc} {a b c y : AVal} (hx : X f = some xf) (hf : a.strip.free = true) (hg : b.strip.free = true) (hh : c.strip.free = true) (hn : 3 ≤ xf.ntmps)
    (h : ∀ tm, tm.length = xf.ntmps → XOpd.eval tm (.t 0) = a.strip → XOpd.eval tm (.t 1) = b.strip → XOpd.eval tm (.t 2) = c.strip → Seals X xf tm y) (σ : Store) : Run X (.call f) [a, b, c] σ = some (.ret, [y], σ) := by
  refine call_seal hx (by simp [stripL, freeL, hf, hg, hh]) (h _ (by simp [stripL]; omega) ?_ ?_ ?_) σ
  all_goals (rw [eval_frame _ _ _ (by simp [stripL])]; simp [stripL])
end
def ints (L : List Int) : List AVal := L.map (.int .i64)
theorem ints_fr (L : List Int) : freeL (ints L) = true := by
  induction L with
  | nil => rfl
  | cons e l ih => simpa [ints, freeL, AVal.free] using ih
theorem ints_len (L : List Int) : (ints L).length = L.length := by simp [ints]
theorem seal_ints (σ : Store) (d : Nat) (L : List Int) : sealV.sealL (sealV σ (d + 1)) (ints L) = some (ints L) := by
  induction L with
  | nil => rfl
  | cons e l ih =>
    have : ints (e :: l) = .int .i64 e :: ints l := rfl
    rw [this]
    simp only [sealV.sealL, ih]
    simp [sealV]
theorem chunks_ints (L : List Int) : chunks (1 != 1) 1 L.length (ints L) = some (ints L) := by
  induction L with
  | nil => rfl
  | cons e l ih =>
    have h : ints (e :: l) = .int .i64 e :: ints l := rfl
    rw [h, List.length_cons]
    unfold chunks
    have e1 : List.take 1 (AVal.int .i64 e :: ints l) = [.int .i64 e] := rfl
    have e2 : List.drop 1 (AVal.int .i64 e :: ints l) = ints l := rfl
    rw [e1, e2, ih]
    rfl
theorem sealV_vints {τ : Store} {e n d : Nat} {L : List Int} (h : τ.get n = some (.cells (ints L))) : sealV τ (d + 2) (.vlist e 1 n L.length) = some (.list 1 (ints L) none) := by
  unfold sealV
  simp only [h, Nat.lt_add_one, if_true, Nat.zero_add, Nat.mul_one, ints_len, Nat.le_refl, seal_ints, List.drop_zero, chunks_ints]
theorem sealR_vints {τ : Store} {e n : Nat} {L : List Int} (h : τ.get n = some (.cells (ints L))) : sealR τ (.vlist e 1 n L.length) = some (.list 1 (ints L) none) := by
  unfold sealR
  have hs := sealV_vints (d := 38) (e := e) h
  simp only [AVal.strip, AVal.free, hs, ints_fr, Option.isNone_none, Bool.and_self, if_true, Bool.false_eq_true, if_false]
theorem sealR_vints2 {τ : Store} {e n : Nat} {L : List Int} {k : Int} (h : τ.get n = some (.cells (ints L))) : sealR τ (.tup [.vlist e 1 n L.length, .int .i64 k]) = some (.tup [.list 1 (ints L) none, .int .i64 k]) := by
  unfold sealR
  have hs := sealV_vints (d := 37) (e := e) h
  have h2 : sealV τ 40 (.tup [.vlist e 1 n L.length, .int .i64 k]) = some (.tup [.list 1 (ints L) none, .int .i64 k]) := by
    have hi : sealV τ 39 (.int .i64 k) = some (.int .i64 k) := rfl
    have hs' : sealV τ 39 (.vlist e 1 n L.length) = some (.list 1 (ints L) none) := hs
    show (sealV.sealL (sealV τ 39) [.vlist e 1 n L.length, .int .i64 k]).map AVal.tup = _
    simp only [sealV.sealL, hs', hi, Option.map_some]
  simp only [AVal.strip, stripL, AVal.free, freeL, Bool.false_and, Bool.false_eq_true, if_false, h2, ints_fr, Option.isNone_none, Bool.and_self, if_true]
/-- A list of numbers that grows, and has room. -/
def OutV (e : Nat) (σ : Store) (m0 : Nat) (L : List Int) (v : AVal) : Prop := (v = .nils ∧ L = []) ∨ ∃ n, m0 ≤ n ∧ n < σ.next ∧ v = .vlist e 1 n L.length ∧ σ.get n = some (.cells (ints L)) ∧ L ≠ []
/-- What it is, sealed. -/
def il (L : List Int) : AVal := if L = [] then .nils else .list 1 (ints L) none
theorem OutV.seal {e : Nat} {τ : Store} {m0 : Nat} {L : List Int} {v : AVal} (h : OutV e τ m0 L v) : sealR τ v = some (il L) := by
  rcases h with ⟨rfl, rfl⟩ | ⟨n, _, _, rfl, h4, h5⟩
  · rfl
  · rw [sealR_vints h4]; unfold il; rw [if_neg h5]
theorem OutV.seal2 {e : Nat} {τ : Store} {m0 : Nat} {L : List Int} {v : AVal} (h : OutV e τ m0 L v) (k : Int) : sealR τ (.tup [v, .int .i64 k]) = some (.tup [il L, .int .i64 k]) := by
  rcases h with ⟨rfl, rfl⟩ | ⟨n, _, _, rfl, h4, h5⟩
  · rfl
  · rw [sealR_vints2 h4]; unfold il; rw [if_neg h5]
end Go.Proofs.Ytgijgcmcpgepaaa.Eng
