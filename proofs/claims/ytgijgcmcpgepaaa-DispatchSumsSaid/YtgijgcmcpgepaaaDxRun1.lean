/-
  DISPATCH: powers and settlements; mathematics.
-/
import Derived.Test.YtgijgcmcpgepaaaEngLoop
import Derived.Test.YtgijgcmcpgepaaaEng6
import Derived.Test.YtgijgcmcpgepaaaCode1
namespace Go.Proofs.Ytgijgcmcpgepaaa.Eng
set_option linter.unusedSimpArgs false
set_option linter.unusedVariables false
def win (a b c : Int) : Bool := decide (b ≤ a) && decide (a ≤ c)
theorem win_iff {a b c : Int} : win a b c = true ↔ b ≤ a ∧ a ≤ c := by simp [win]
theorem win_no {a b c : Int} (h : win a b c = false) : a < b ∨ c < a := by
  by_cases e1 : b ≤ a
  · simp [win, e1] at h; exact .inr h
  · exact .inl (by omega)
def firstNZ : List Int → Int
  | [] => 0
  | e :: l => if e = 0 then firstNZ l else e
def imax (a b : Int) : Int := if a < b then b else a
def imin (a b : Int) : Int := if b < a then b else a
theorem xmm_max (k k' : IntKind) (x y : Int) : xmm true (.int k x) (.int k' y) = some (.int k (imax x y)) := rfl
theorem xmm_min (k k' : IntKind) (x y : Int) : xmm false (.int k x) (.int k' y) = some (.int k (imin x y)) := rfl
def sz (n : Int) : Int := imax n (-n)
theorem sz_pos (n : Int) : 0 ≤ sz n ∧ n ≤ sz n ∧ -n ≤ sz n := by unfold sz imax; split <;> omega
theorem wrp {n : Int} (h1 : -1000000000000000000 ≤ n) (h2 : n ≤ 1000000000000000000) : IntKind.i64.wrap n = n := by rw [wrap_i64] <;> omega
/-! Lists of numbers. -/
theorem ints_get {L : List Int} {i : Nat} (hi : i < L.length) : (ints L)[i]? = some (.int .i64 L[i]) := by simp [ints, hi]
theorem ints_app (L : List Int) (x : Int) : ints (L ++ [x]) = ints L ++ [.int .i64 x] := by simp [ints]
def IntV (L : List Int) (v : AVal) : Prop := v = .list 1 (ints L) none ∨ (v = .nils ∧ L = [])
theorem IntV.free {L : List Int} {v : AVal} (h : IntV L v) : v.free = true ∧ v.strip = v := by
  rcases h with rfl | ⟨rfl, _⟩
  · have fr := ints_fr L
    exact ⟨by simp [AVal.free, fr], by simp [AVal.strip, freeL_strip fr]⟩
  · exact ⟨rfl, rfl⟩
theorem IntV.len {L : List Int} {v : AVal} (h : IntV L v) : xlen v = some (.int .i64 L.length) ∧ v.down = v := by
  rcases h with rfl | ⟨rfl, rfl⟩ <;> exact ⟨by simp [ints_len], rfl⟩
theorem IntV.ne {L : List Int} {v : AVal} (h : IntV L v) (hn : L ≠ []) : v = .list 1 (ints L) none := by
  rcases h with rfl | ⟨_, rfl⟩
  · rfl
  · exact absurd rfl hn
theorem IntV.list (L : List Int) : IntV L (.list 1 (ints L) none) := .inl rfl
/-- Numbers that must lie in a range. -/
def cw (lo hi : Int) : List Int → Int
  | [] => 0
  | n :: l => if win n lo hi then cw lo hi l else 2
theorem cw_in {lo hi : Int} : ∀ {L : List Int}, cw lo hi L = 0 → ∀ x, x ∈ L → lo ≤ x ∧ x ≤ hi
  | [], _, x, hx => by cases hx
  | a :: L, h, x, hx => by
    unfold cw at h
    split at h
    · rename_i c
      rcases List.mem_cons.1 hx with rfl | hx
      · exact win_iff.1 c
      · exact cw_in h x hx
    · omega
theorem cw_two {lo hi : Int} : ∀ (L : List Int), cw lo hi L = 0 ∨ cw lo hi L = 2
  | [] => .inl rfl
  | a :: L => by unfold cw; split; exact cw_two L; exact .inr rfl
theorem cw_at {lo hi : Int} {L : List Int} (h : cw lo hi L = 0) (l0 : lo ≤ 0) (h0 : 0 ≤ hi) (i : Nat) : lo ≤ L.getD i 0 ∧ L.getD i 0 ≤ hi := by
  by_cases hi' : i < L.length
  · have : L.getD i 0 = L[i] := by simp [hi']
    rw [this]
    exact cw_in h _ (List.getElem_mem hi')
  · have : L.getD i 0 = 0 := by simp [List.getD_eq_getElem?_getD, List.getElem?_eq_none (Nat.le_of_not_lt hi')]
    rw [this]
    exact ⟨l0, h0⟩
def pwE (L : List Int) : Int := if L.length ≤ 300 then cw (-1000000) 1000000 L else 8
theorem pwE_ok {L : List Int} (h : pwE L = 0) : L.length ≤ 300 ∧ ∀ i, -1000000 ≤ L.getD i 0 ∧ L.getD i 0 ≤ 1000000 := by
  unfold pwE at h
  split at h
  · rename_i c; exact ⟨c, cw_at h (by omega) (by omega)⟩
  · omega
def rmE (s r : Int) : Int := if win s (-1000000) 1000000 && win r 0 1000000 then 0 else 2
/-! Powers that follow. -/
def nxP (r p w : Int) : Int := imin (imax w (p - r)) (p + r)
def nxV (r p w : Int) : Int := imax (p - r) (imin (p + r) w)
theorem nx_eq {r : Int} (h : 0 ≤ r) (p w : Int) : nxV r p w = nxP r p w := by
  unfold nxV nxP imax imin; (repeat' split) <;> omega
def fS (s r : Int) (L : List Int) : Nat → Int
  | 0 => s
  | i + 1 => nxP r (fS s r L i) (L.getD i 0)
def folL (s r : Int) (L : List Int) (n : Nat) : List Int := (List.range n).map fun i => fS s r L (i + 1)
theorem folL_len (s r : Int) (L : List Int) (n : Nat) : (folL s r L n).length = n := by simp [folL]
theorem folL_succ (s r : Int) (L : List Int) (n : Nat) : folL s r L (n + 1) = folL s r L n ++ [fS s r L (n + 1)] := by simp [folL, List.range_succ]
theorem folL_get (s r : Int) (L : List Int) {n i : Nat} (h : i < n) : (folL s r L n).getD i 0 = fS s r L (i + 1) := by simp [folL, h]
/-- A start, a ramp and powers. -/
structure FIn (s r : Int) (L : List Int) : Prop where
  s0 : -1000000 ≤ s
  s1 : s ≤ 1000000
  r0 : 0 ≤ r
  r1 : r ≤ 1000000
  n : L.length ≤ 300
  d : ∀ i, -1000000 ≤ L.getD i 0 ∧ L.getD i 0 ≤ 1000000
theorem fin_of {s r : Int} {L : List Int} (h : rmE s r = 0) (hp : pwE L = 0) : FIn s r L := by
  unfold rmE at h
  split at h
  · rename_i c
    simp only [Bool.and_eq_true, win_iff] at c
    obtain ⟨c1, c2⟩ := pwE_ok hp
    exact ⟨c.1.1, c.1.2, c.2.1, c.2.2, c1, c2⟩
  · omega
theorem FIn.at {s r : Int} {L : List Int} (h : FIn s r L) : ∀ i, -1000000 ≤ fS s r L i ∧ fS s r L i ≤ 1000000
  | 0 => ⟨h.s0, h.s1⟩
  | i + 1 => by
    have ih := h.at i
    have hd := h.d i
    have r0 := h.r0
    show -1000000 ≤ nxP r (fS s r L i) (L.getD i 0) ∧ nxP r (fS s r L i) (L.getD i 0) ≤ 1000000
    generalize fS s r L i = p at *
    generalize L.getD i 0 = w at *
    unfold nxP imax imin; (repeat' split) <;> omega
/-- A power changes by no more than the ramp, and by the ramp unless it is what is wanted. -/
theorem nx_near {r : Int} (h : 0 ≤ r) (p w : Int) : p - r ≤ nxP r p w ∧ nxP r p w ≤ p + r ∧ (nxP r p w = w ∨ sz (nxP r p w - p) = r) := by
  unfold nxP sz imax imin; (repeat' split) <;> omega
/-- A constant power is reached. -/
theorem fS_rest {s r w : Int} (hr : 0 ≤ r) {L : List Int} {n : Nat} (hL : ∀ i, i < n → L.getD i 0 = w) : ∀ i, i ≤ n → fS s r L i = w ∨ sz (w - fS s r L i) + i * r = sz (w - s)
  | 0, _ => .inr (by show sz (w - s) + _ = _; simp)
  | i + 1, hi => by
    have ih := fS_rest (s := s) hr hL i (by omega)
    have e : fS s r L (i + 1) = nxP r (fS s r L i) w := by show nxP r _ (L.getD i 0) = _; rw [hL i (by omega)]
    rw [e]
    generalize fS s r L i = p at *
    have em : ((i + 1 : Nat) : Int) * r = i * r + r := by rw [show ((i + 1 : Nat) : Int) = (i : Int) + 1 from rfl, Int.add_mul]; omega
    rw [em]
    rcases ih with rfl | ih
    · left; unfold nxP imax imin; (repeat' split) <;> omega
    · generalize (i : Int) * r = q at *
      generalize sz (w - s) = z at *
      by_cases c : nxP r p w = w
      · exact .inl c
      · right
        unfold nxP sz imax imin at *
        (repeat' split at *) <;> omega
/-! Settlements. -/
def nrg (w m : Int) : Int := imax (imax 0 (imin w m)) (imin (-w) (-m))
def nrV (w m : Int) : Int := if (0 < w ∧ 0 < m) ∨ (w < 0 ∧ m < 0) then imin (sz w) (sz m) else 0
theorem nr_eq (w m : Int) : nrV w m = nrg w m := by
  unfold nrV nrg sz imax imin; (repeat' split) <;> omega
theorem nrg_in (w m : Int) : 0 ≤ nrg w m ∧ nrg w m ≤ sz w ∧ nrg w m ≤ sz m := by
  unfold nrg sz imax imin; (repeat' split) <;> omega
theorem nrg_self (w : Int) : nrg w w = sz w := by
  unfold nrg sz imax imin; (repeat' split) <;> omega
def eS (W M : List Int) : Nat → Int
  | 0 => 0
  | i + 1 => eS W M i + nrg (W.getD i 0) (M.getD i 0)
def mS (W M : List Int) : Nat → Int
  | 0 => 0
  | i + 1 => mS W M i + (sz (W.getD i 0) - nrg (W.getD i 0) (M.getD i 0))
def oS (W M : List Int) : Nat → Int
  | 0 => 0
  | i + 1 => oS W M i + (sz (M.getD i 0) - nrg (W.getD i 0) (M.getD i 0))
theorem sz_le {n : Int} (h : -1000000 ≤ n ∧ n ≤ 1000000) : 0 ≤ sz n ∧ sz n ≤ 1000000 := by unfold sz imax; split <;> omega
theorem eS_in {W M : List Int} (hW : ∀ i, -1000000 ≤ W.getD i 0 ∧ W.getD i 0 ≤ 1000000) : ∀ i, 0 ≤ eS W M i ∧ eS W M i ≤ i * 1000000
  | 0 => ⟨Int.le_refl 0, by simp [eS]⟩
  | i + 1 => by
    have ih := eS_in (M := M) hW i
    have h1 := nrg_in (W.getD i 0) (M.getD i 0)
    have h2 := sz_le (hW i)
    unfold eS
    omega
theorem mS_in {W M : List Int} (hW : ∀ i, -1000000 ≤ W.getD i 0 ∧ W.getD i 0 ≤ 1000000) : ∀ i, 0 ≤ mS W M i ∧ mS W M i ≤ i * 1000000
  | 0 => ⟨Int.le_refl 0, by simp [mS]⟩
  | i + 1 => by
    have ih := mS_in (M := M) hW i
    have h1 := nrg_in (W.getD i 0) (M.getD i 0)
    have h2 := sz_le (hW i)
    unfold mS
    omega
theorem oS_in {W M : List Int} (hM : ∀ i, -1000000 ≤ M.getD i 0 ∧ M.getD i 0 ≤ 1000000) : ∀ i, 0 ≤ oS W M i ∧ oS W M i ≤ i * 1000000
  | 0 => ⟨Int.le_refl 0, by simp [oS]⟩
  | i + 1 => by
    have ih := oS_in (W := W) hM i
    have h1 := nrg_in (W.getD i 0) (M.getD i 0)
    have h2 := sz_le (hM i)
    unfold oS
    omega
/-- The sizes, added up. -/
def zS (W : List Int) : Nat → Int
  | 0 => 0
  | i + 1 => zS W i + sz (W.getD i 0)
theorem em_z (W M : List Int) : ∀ i, eS W M i + mS W M i = zS W i
  | 0 => rfl
  | i + 1 => by have := em_z W M i; unfold eS mS zS; omega
theorem eo_z (W M : List Int) : ∀ i, eS W M i + oS W M i = zS M i
  | 0 => rfl
  | i + 1 => by have := eo_z W M i; unfold eS oS zS; omega
theorem self_z (W : List Int) : ∀ i, eS W W i = zS W i ∧ mS W W i = 0 ∧ oS W W i = 0
  | 0 => ⟨rfl, rfl, rfl⟩
  | i + 1 => by
    have := self_z W i
    have := nrg_self (W.getD i 0)
    unfold eS mS oS zS; omega
theorem zS_in {W : List Int} (hW : ∀ i, -1000000 ≤ W.getD i 0 ∧ W.getD i 0 ≤ 1000000) : ∀ i, 0 ≤ zS W i ∧ zS W i ≤ i * 1000000
  | 0 => ⟨Int.le_refl 0, by simp [zS]⟩
  | i + 1 => by
    have ih := zS_in hW i
    have h2 := sz_le (hW i)
    unfold zS
    omega
theorem getD_drop (W : List Int) (h k : Nat) : (W.drop h).getD k 0 = W.getD (h + k) 0 := by
  simp [List.getD_eq_getElem?_getD, List.getElem?_drop]
theorem getD_take (W : List Int) {h k : Nat} (hk : k < h) : (W.take h).getD k 0 = W.getD k 0 := by
  simp [List.getD_eq_getElem?_getD, List.getElem?_take, hk]
theorem eS_succ (W M : List Int) (i : Nat) : eS W M (i + 1) = eS W M i + nrg (W.getD i 0) (M.getD i 0) := rfl
theorem mS_succ (W M : List Int) (i : Nat) : mS W M (i + 1) = mS W M i + (sz (W.getD i 0) - nrg (W.getD i 0) (M.getD i 0)) := rfl
theorem oS_succ (W M : List Int) (i : Nat) : oS W M (i + 1) = oS W M i + (sz (M.getD i 0) - nrg (W.getD i 0) (M.getD i 0)) := rfl
theorem zS_succ (W : List Int) (i : Nat) : zS W (i + 1) = zS W i + sz (W.getD i 0) := rfl
theorem eS_split (W M : List Int) (h : Nat) : ∀ k, eS W M (h + k) = eS W M h + eS (W.drop h) (M.drop h) k ∧ mS W M (h + k) = mS W M h + mS (W.drop h) (M.drop h) k ∧ oS W M (h + k) = oS W M h + oS (W.drop h) (M.drop h) k
  | 0 => by simp [eS, mS, oS]
  | k + 1 => by
    have ih := eS_split W M h k
    have e1 := getD_drop W h k
    have e2 := getD_drop M h k
    rw [← Nat.add_assoc]
    simp only [eS_succ, mS_succ, oS_succ, e1, e2]
    omega
theorem eS_take (W M : List Int) (h : Nat) : ∀ k, k ≤ h → eS (W.take h) (M.take h) k = eS W M k ∧ mS (W.take h) (M.take h) k = mS W M k ∧ oS (W.take h) (M.take h) k = oS W M k
  | 0, _ => ⟨rfl, rfl, rfl⟩
  | k + 1, hk => by
    have ih := eS_take W M h k (by omega)
    have e1 := getD_take W (h := h) (k := k) (by omega)
    have e2 := getD_take M (h := h) (k := k) (by omega)
    unfold eS mS oS
    rw [e1, e2]
    omega
end Go.Proofs.Ytgijgcmcpgepaaa.Eng

/-
  DISPATCH: small functions.
-/
namespace Go.Proofs.Ytgijgcmcpgepaaa.Eng
set_option linter.unusedSimpArgs false
set_option linter.unusedVariables false
section
variable {X : FuncId → Option XFunc} (hX : DxACode X)
include hX
theorem w33 (a b c : Int) (σ : Store) : Run X (.call 33) [.int .i64 a, .int .i64 b, .int .i64 c] σ = some (.ret, [.bool (win a b c)], σ) := by
  refine call3 (X := X) (a := .int .i64 a) (b := .int .i64 b) (c := .int .i64 c) (v := .bool (win a b c)) hX.h33 rfl rfl rfl (by decide) (fun tm hl h0 h1 h2 => ?_) rfl σ
  simp only [AVal.strip, stripL] at h0 h1 h2
  replace hl : tm.length = 15 := hl
  unfold Gives
  by_cases e1 : b ≤ a <;> simp [xf33, hl, h0, h1, h2, e1, win]
theorem w52 {a : Int} (hw : IntKind.i64.wrap (-a) = -a) (σ : Store) : Run X (.call 52) [.int .i64 a] σ = some (.ret, [.int .i64 (sz a)], σ) := by
  refine call1 (X := X) (a := .int .i64 a) (v := .int .i64 (sz a)) hX.h52 rfl (by decide) (fun tm hl h0 => ?_) rfl σ
  simp only [AVal.strip, stripL] at h0
  replace hl : tm.length = 7 := hl
  unfold Gives
  simp [xf52, hl, h0, hw, xext, xmm_max, sz]
  rfl
theorem w103 {a : Int} (hw : IntKind.i64.wrap (-a) = -a) (σ : Store) : Run X (.call 103) [.int .i64 a] σ = some (.ret, [.int .i64 (sz a)], σ) := by
  refine call1 (X := X) (a := .int .i64 a) (v := .int .i64 (sz a)) hX.h103 rfl (by decide) (fun tm hl h0 => ?_) rfl σ
  simp only [AVal.strip, stripL] at h0
  replace hl : tm.length = 7 := hl
  unfold Gives
  simp [xf103, hl, h0, hw, xext, xmm_max, sz]
  rfl
theorem w102 {w m : Int} (hw : IntKind.i64.wrap (-w) = -w) (hm : IntKind.i64.wrap (-m) = -m) (σ : Store) : Run X (.call 102) [.int .i64 w, .int .i64 m] σ = some (.ret, [.int .i64 (nrg w m)], σ) := by
  refine call2 (X := X) (a := .int .i64 w) (b := .int .i64 m) (v := .int .i64 (nrg w m)) hX.h102 rfl rfl (by decide) (fun tm hl h0 h1 => ?_) rfl σ
  simp only [AVal.strip, stripL] at h0 h1
  replace hl : tm.length = 14 := hl
  unfold Gives
  simp [xf102, hl, h0, h1, hw, hm, xext, xmm_max, xmm_min, nrg]
  unfold imax imin
  (repeat' split) <;> omega
theorem w71 (c : Bool) (e : Int) (σ : Store) : Run X (.call 71) [.bool c, .int .i64 e] σ = some (.ret, [.int .i64 (if c then 0 else e)], σ) := by
  refine call2 (X := X) (a := .bool c) (b := .int .i64 e) (v := .int .i64 (if c then 0 else e)) hX.h71 rfl rfl (by decide) (fun tm hl h0 h1 => ?_) rfl σ
  simp only [AVal.strip, stripL] at h0 h1
  replace hl : tm.length = 7 := hl
  unfold Gives
  cases c <;> simp [xf71, hl, h0, h1]
omit hX in
theorem loop69 (es : List Int) (hn : es.length ≤ 1000000000) : ∀ (k i : Nat), i + k = es.length → ∀ (tm : List AVal) (σ : Store), tm.length = 15 → XOpd.eval tm (.t 5) = .list 1 (es.map (.int .i64)) none → XOpd.eval tm (.t 6) = .int .i64 es.length → XOpd.eval tm (.t 7) = .int .i64 i →
    Ends (Run X (.code (.loop xf69l0)) tm σ) (if firstNZ (es.drop i) = 0 then .exit 0 else .ret) fun tm' _ => tm'.length = 15 ∧ (firstNZ (es.drop i) ≠ 0 → XOpd.eval tm' (.t 2) = .int .i64 (firstNZ (es.drop i)))
  | 0, i, hk, tm, σ, hl, h5, h6, h7 => by
    have hi : i = es.length := by omega
    subst hi
    rw [Run_loop]
    simp [xf69l0, hl, h5, h6, h7, firstNZ]
  | k + 1, i, hk, tm, σ, hl, h5, h6, h7 => by
    have hi : i < es.length := by omega
    have hd : es.drop i = es[i] :: es.drop (i + 1) := List.drop_eq_getElem_cons hi
    have hw : IntKind.i64.wrap ((i : Int) + 1) = ((i + 1 : Nat) : Int) := by rw [wrap_i64] <;> omega
    rw [Run_loop, hd]
    by_cases he : es[i] = 0
    · have ih := loop69 es hn k (i + 1) (by omega)
      simp only [firstNZ, he, if_true]
      simp [xf69l0, hl, h5, h6, h7, hi, he, hw, xload, AVal.cells]
      exact ih _ _ (by simp [hl]) (by simp [hl, h5]) (by simp [hl, h6]) (by simp [hl])
    · simp only [firstNZ, he, if_false]
      simp [xf69l0, hl, h5, h6, h7, hi, he, xload, AVal.cells]
omit hX in
theorem eints_free (es : List Int) : freeL (es.map (AVal.int .i64)) = true := by
  induction es with
  | nil => rfl
  | cons e l ih => simp [freeL, AVal.free, ih]
theorem w69 (es : List Int) (hn : es.length ≤ 1000000000) (tok : Option Nat) (σ : Store) : Run X (.call 69) [.list 1 (es.map (.int .i64)) tok] σ = some (.ret, [.int .i64 (firstNZ es)], σ) := by
  refine call1 (v := .int .i64 (firstNZ es)) hX.h69 (by simp [AVal.strip, AVal.free, freeL_strip (eints_free es), eints_free]) (by decide) (fun tm hl h0 => ?_) rfl σ
  simp only [AVal.strip, freeL_strip (eints_free es)] at h0
  replace hl : tm.length = 15 := hl
  have hL := fun tm σ h1 h2 h3 h4 => out_of (loop69 (X := X) es hn es.length 0 (by omega) tm σ h1 h2 h3 h4)
  simp only [List.drop_zero] at hL
  unfold Gives
  by_cases he : firstNZ es = 0
  · simp only [he, if_true] at hL
    simp (maxDischargeDepth := 9) [xf69, hl, h0, hL, he, xlen]
  · simp only [he, if_false] at hL
    simp (maxDischargeDepth := 9) [xf69, hl, h0, hL, he, xlen]
theorem first2 (a b : Int) (tok : Option Nat) (σ : Store) : Run X (.call 69) [.list 1 [.int .i64 a, .int .i64 b] tok] σ = some (.ret, [.int .i64 (firstNZ [a, b])], σ) := w69 hX [a, b] (by simp) tok σ
theorem first3 (a b c : Int) (tok : Option Nat) (σ : Store) : Run X (.call 69) [.list 1 [.int .i64 a, .int .i64 b, .int .i64 c] tok] σ = some (.ret, [.int .i64 (firstNZ [a, b, c])], σ) := w69 hX [a, b, c] (by simp) tok σ
theorem first4 (a b c d : Int) (tok : Option Nat) (σ : Store) : Run X (.call 69) [.list 1 [.int .i64 a, .int .i64 b, .int .i64 c, .int .i64 d] tok] σ = some (.ret, [.int .i64 (firstNZ [a, b, c, d])], σ) := w69 hX [a, b, c, d] (by simp) tok σ
theorem first5 (a b c d e : Int) (tok : Option Nat) (σ : Store) : Run X (.call 69) [.list 1 [.int .i64 a, .int .i64 b, .int .i64 c, .int .i64 d, .int .i64 e] tok] σ = some (.ret, [.int .i64 (firstNZ [a, b, c, d, e])], σ) := w69 hX [a, b, c, d, e] (by simp) tok σ
end
end Go.Proofs.Ytgijgcmcpgepaaa.Eng

/-
  Lists that grow by one.
-/
namespace Go.Proofs.Ytgijgcmcpgepaaa.Eng
set_option linter.unusedSimpArgs false
set_option linter.unusedVariables false
theorem out_append {e s bytes : Nat} {σ : Store} {m0 : Nat} {ys : List AVal} {v : AVal} (h : OutG e s σ m0 ys v) (hm : m0 ≤ σ.next) {x : AVal} (hx : x.cells.all AVal.one = true) (hs : 0 < s) (hb : (ys.length + 1) * bytes ≤ 1000000000000) (hl : ys.length + 1 ≤ 1000000000000) (tok : Option Nat) :
    ∃ v' σ', xappend σ e s bytes v (.list s [x] tok) = some (v', σ') ∧ OutG e s σ' m0 (ys ++ [x]) v' ∧ (∀ m, m < m0 → σ'.get m = σ.get m) ∧ σ.next ≤ σ'.next := by
  have ho : ones [x] = true := by simp [ones] at hx ⊢; exact hx
  rcases h with ⟨rfl, rfl⟩ | ⟨j, h1, h2, rfl, h4, h5⟩
  · refine ⟨.list s [x] (some σ.next), σ.new (.tok e s 1), ?_, .inr ⟨σ.next, hm, ?_, rfl, ?_, by simp⟩, fun m hm' => ?_, ?_⟩
    · simp only [List.length_nil, Nat.zero_add, Nat.one_mul] at hb hl
      simp [xappend, hs, ho, hb]
    · rw [new_next]; omega
    · rw [Store.get_new, put_get, if_pos rfl]; rfl
    · rw [Store.get_new, put_get, if_neg (by omega)]
    · rw [new_next]; omega
  · refine ⟨.list s (ys ++ [x]) (some j), σ.put j (.tok e s (ys.length + 1)), ?_, .inr ⟨j, h1, ?_, rfl, ?_, by simp⟩, fun m hm' => ?_, ?_⟩
    · simp [xappend, hs, ho, hb, hl, h4]
    · rw [put_next]; exact h2
    · rw [Store.get_put, put_get, if_pos rfl, List.length_append]; rfl
    · rw [Store.get_put, put_get, if_neg (by omega)]
    · exact Nat.le_refl _
theorem OutG.tok {e s : Nat} {σ : Store} {m0 : Nat} {ys : List AVal} {v : AVal} (h : OutG e s σ m0 ys v) (o : NObj) : OutG e s (σ.new o) m0 ys v :=
  h.far (fun m _ h2 => by rw [Store.get_new, put_get, if_neg (by omega)]) (by rw [new_next]; omega)
theorem OutG.len {e s : Nat} {σ : Store} {m0 : Nat} {ys : List AVal} {v : AVal} (h : OutG e s σ m0 ys v) : xlen v.down = some (.int .i64 ys.length) := by
  rcases h with ⟨rfl, rfl⟩ | ⟨j, _, _, rfl, _, _⟩ <;> rfl
/-- A list of numbers, as it is handed back. -/
theorem OutG.ints {e : Nat} {σ : Store} {m0 : Nat} {L : List Int} {v : AVal} (h : OutG e 1 σ m0 (ints L) v) : (v.strip = .list 1 (Go.Proofs.Ytgijgcmcpgepaaa.Eng.ints L) none ∨ (v.strip = .nils ∧ L = [])) ∧ v.strip.free = true := by
  have fr := ints_fr L
  rcases h with ⟨rfl, hl⟩ | ⟨j, _, _, rfl, _, _⟩
  · exact ⟨.inr ⟨rfl, by simpa [Go.Proofs.Ytgijgcmcpgepaaa.Eng.ints] using hl⟩, rfl⟩
  · have : (AVal.list 1 (Go.Proofs.Ytgijgcmcpgepaaa.Eng.ints L) (some j)).strip = .list 1 (Go.Proofs.Ytgijgcmcpgepaaa.Eng.ints L) none := by simp [AVal.strip, freeL_strip fr]
    rw [this]
    exact ⟨.inl rfl, by simp [AVal.free, fr]⟩
end Go.Proofs.Ytgijgcmcpgepaaa.Eng

/-
  DISPATCH: ranges, powers.
-/
namespace Go.Proofs.Ytgijgcmcpgepaaa.Eng
set_option linter.unusedSimpArgs false
set_option linter.unusedVariables false
section
variable {X : FuncId → Option XFunc} (hX : DxACode X)
include hX
omit hX in
theorem loop70 (lo hi : Int) (L : List Int) {v : AVal} (hv : IntV L v) (hn : L.length ≤ 1000000000) : ∀ (k i : Nat), i + k = L.length → ∀ (tm : List AVal) (σ : Store), tm.length = 24 → XOpd.eval tm (.t 0) = .int .i64 lo → XOpd.eval tm (.t 1) = .int .i64 hi → XOpd.eval tm (.t 9) = v → XOpd.eval tm (.t 10) = .int .i64 L.length → XOpd.eval tm (.t 11) = .int .i64 i →
    Ends (Run X (.code (.loop xf70l0)) tm σ) (if cw lo hi (L.drop i) = 0 then .exit 0 else .ret) fun tm' _ => tm'.length = 24 ∧ (cw lo hi (L.drop i) ≠ 0 → XOpd.eval tm' (.t 6) = .int .i64 2)
  | 0, i, hk, tm, σ, hl, h0, h1, h9, h10, h11 => by
    have hi' : i = L.length := by omega
    subst hi'
    rw [Run_loop]
    simp [xf70l0, hl, h10, h11, cw]
  | k + 1, i, hk, tm, σ, hl, h0, h1, h9, h10, h11 => by
    have hi' : i < L.length := by omega
    have hd : L.drop i = L[i] :: L.drop (i + 1) := List.drop_eq_getElem_cons hi'
    have hw : IntKind.i64.wrap ((i : Int) + 1) = ((i + 1 : Nat) : Int) := by rw [wrap_i64] <;> omega
    have h9' : XOpd.eval tm (.t 9) = .list 1 (ints L) none := by rw [h9]; exact hv.ne (by intro e; simp [e] at hi')
    rw [Run_loop, hd]
    cases he : win L[i] lo hi with
    | true =>
      have ih := loop70 lo hi L hv hn k (i + 1) (by omega)
      have c := win_iff.1 he
      have c1 : ¬ L[i] < lo := by omega
      have c2 : ¬ hi < L[i] := by omega
      simp only [cw, he, if_true]
      simp [xf70l0, hl, h0, h1, h9', h10, h11, hi', c1, c2, hw, ints, xload, AVal.cells]
      exact ih _ _ (by simp [hl]) (by simp [hl, h0]) (by simp [hl, h1]) (by simp [hl, h9]) (by simp [hl, h10]) (by simp [hl])
    | false =>
      simp only [cw, he, Bool.false_eq_true, if_false]
      have c := win_no he
      by_cases c1 : L[i] < lo
      · simp [xf70l0, hl, h0, h1, h9', h10, h11, hi', c1, ints, xload, AVal.cells]
      · have c2 : hi < L[i] := by omega
        simp [xf70l0, hl, h0, h1, h9', h10, h11, hi', c1, c2, ints, xload, AVal.cells]
theorem w70 (lo hi : Int) {L : List Int} {v : AVal} (h : IntV L v.strip) (hn : L.length ≤ 1000000000) (σ : Store) : Run X (.call 70) [.int .i64 lo, .int .i64 hi, v] σ = some (.ret, [.int .i64 (cw lo hi L)], σ) := by
  refine call3 (a := .int .i64 lo) (b := .int .i64 hi) (c := v) (v := .int .i64 (cw lo hi L)) hX.h70 rfl rfl h.free.1 (by decide) (fun tm hl h0 h1 h2 => ?_) rfl σ
  simp only [AVal.strip] at h0 h1
  replace hl : tm.length = 24 := hl
  obtain ⟨hln, hdn⟩ := h.len
  generalize v.strip = s at *
  have hL := fun tm σ h1 h2 h3 h4 h5 h6 => out_of (loop70 (X := X) lo hi L h hn L.length 0 (by omega) tm σ h1 h2 h3 h4 h5 h6)
  simp only [List.drop_zero] at hL
  unfold Gives
  rcases cw_two (lo := lo) (hi := hi) L with he | he
  · simp only [he, if_true] at hL
    simp (maxDischargeDepth := 9) [xf70, hl, h0, h1, h2, hL, he, hln, hdn]
  · have he' : ¬ cw lo hi L = 0 := by omega
    simp only [he', if_false] at hL
    simp (maxDischargeDepth := 9) [xf70, hl, h0, h1, h2, hL, he, he', hln, hdn]
theorem w76 {m : Int} (hm : IntKind.i64.wrap (-m) = -m) {L : List Int} {v : AVal} (h : IntV L v.strip) (hn : L.length ≤ 1000000000) (σ : Store) : Run X (.call 76) [.int .i64 m, v] σ = some (.ret, [.int .i64 (cw (-m) m L)], σ) := by
  have h' : IntV L v.strip.strip := by rw [h.free.2]; exact h
  have u := w70 hX (-m) m h' hn
  refine call2 (a := .int .i64 m) (b := v) (v := .int .i64 (cw (-m) m L)) hX.h76 rfl h.free.1 (by decide) (fun tm hl h0 h1 => ?_) rfl σ
  simp only [AVal.strip] at h0
  replace hl : tm.length = 10 := hl
  generalize v.strip = s at *
  unfold Gives
  simp [xf76, hl, h0, h1, hm, u]
theorem w101 {L : List Int} {v : AVal} (h : IntV L v) (hn : L.length ≤ 1000000000) (σ : Store) : Run X (.call 101) [v] σ = some (.ret, [.int .i64 (pwE L)], σ) := by
  have h' : IntV L v.strip := by rw [h.free.2]; exact h
  have u := fun σ => w76 hX (m := 1000000) (by decide) h' hn σ
  have u2 := w71 hX
  have u3 := first2 hX
  refine call1 (a := v) (v := .int .i64 (pwE L)) hX.h101 h'.free.1 (by decide) (fun tm hl h0 => ?_) rfl σ
  rw [h.free.2] at h0
  replace hl : tm.length = 11 := hl
  obtain ⟨hln, hdn⟩ := h.len
  have fr := h.free
  unfold Gives pwE
  by_cases c : L.length ≤ 300
  · have c' : (L.length : Int) ≤ 300 := by omega
    rcases cw_two (lo := -1000000) (hi := 1000000) L with he | he <;>
      simp [xf101, hl, h0, u, u2, u3, fr, hln, hdn, c, c', he, firstNZ, Store.empty, Store.new, Store.put, Store.get, look, putL, setR, Store.only, Store.merge, touch, wrote, upTo, isIn, okRec, hits, capsOf, xcaps, stripL, AVal.strip, freeL, AVal.free, fillR, chunks, mkV, List.filter]
  · have c' : ¬ (L.length : Int) ≤ 300 := by omega
    simp [xf101, hl, h0, u, u2, u3, fr, hln, hdn, c, c', firstNZ, Store.empty, Store.new, Store.put, Store.get, look, putL, setR, Store.only, Store.merge, touch, wrote, upTo, isIn, okRec, hits, capsOf, xcaps, stripL, AVal.strip, freeL, AVal.free, fillR, chunks, mkV, List.filter]
omit hX in
theorem loop49 (hW : ∀ (a b c : Int) σ, Run X (.call 33) [.int .i64 a, .int .i64 b, .int .i64 c] σ = some (.ret, [.bool (win a b c)], σ)) (L : List Int) {v : AVal} (hv : IntV L v) (hn : L.length ≤ 1000000000) : ∀ (k i : Nat), i + k = L.length → ∀ (tm : List AVal) (σ : Store), tm.length = 19 → XOpd.eval tm (.t 0) = v → XOpd.eval tm (.t 3) = .int .i64 i →
    Ends (Run X (.code (.loop xf49l0)) tm σ) (if cw (-1000000) 1000000 (L.drop i) = 0 then .exit 0 else .ret) fun tm' _ => tm'.length = 19 ∧ (cw (-1000000) 1000000 (L.drop i) ≠ 0 → XOpd.eval tm' (.t 2) = .int .i64 2)
  | 0, i, hk, tm, σ, hl, h0, h3 => by
    have hi' : i = L.length := by omega
    subst hi'
    obtain ⟨hln, hdn⟩ := hv.len
    rw [Run_loop]
    simp [xf49l0, hl, h0, h3, hln, hdn, cw]
  | k + 1, i, hk, tm, σ, hl, h0, h3 => by
    have hi' : i < L.length := by omega
    have hd : L.drop i = L[i] :: L.drop (i + 1) := List.drop_eq_getElem_cons hi'
    have hw : IntKind.i64.wrap ((i : Int) + 1) = ((i + 1 : Nat) : Int) := by rw [wrap_i64] <;> omega
    have h0' : XOpd.eval tm (.t 0) = .list 1 (ints L) none := by rw [h0]; exact hv.ne (by intro e; simp [e] at hi')
    rw [Run_loop, hd]
    cases he : win L[i] (-1000000) 1000000 with
    | true =>
      have ih := loop49 hW L hv hn k (i + 1) (by omega)
      simp only [cw, he, if_true]
      simp [xf49l0, hl, h0', h3, hi', hW, he, hw, ints, xload, xlen, AVal.cells]
      exact ih _ _ (by simp [hl]) (by simp [hl, h0]) (by simp [hl])
    | false =>
      simp only [cw, he, Bool.false_eq_true, if_false]
      simp [xf49l0, hl, h0', h3, hi', hW, he, ints, xload, xlen, AVal.cells]
theorem w49 {L : List Int} {v : AVal} (h : IntV L v) (hn : L.length ≤ 1000000000) (σ : Store) : Run X (.call 49) [v] σ = some (.ret, [.int .i64 (pwE L)], σ) := by
  refine call1 (a := v) (v := .int .i64 (pwE L)) hX.h49 (by rw [h.free.2]; exact h.free.1) (by decide) (fun tm hl h0 => ?_) rfl σ
  rw [h.free.2] at h0
  replace hl : tm.length = 19 := hl
  obtain ⟨hln, hdn⟩ := h.len
  have hL := fun tm σ h1 h2 h3 => out_of (loop49 (X := X) (w33 hX) L h hn L.length 0 (by omega) tm σ h1 h2 h3)
  simp only [List.drop_zero] at hL
  have c0 : ((0 : Nat) : Int) = 0 := rfl
  simp only [c0] at hL
  unfold Gives pwE
  by_cases c : L.length ≤ 300
  · have c' : ¬ (300 : Int) < L.length := by omega
    rcases cw_two (lo := -1000000) (hi := 1000000) L with he | he
    · simp only [he, if_true] at hL
      simp (maxDischargeDepth := 9) [xf49, hl, h0, hL, he, hln, hdn, c, c']
    · have he' : ¬ cw (-1000000) 1000000 L = 0 := by omega
      simp only [he', if_false] at hL
      simp (maxDischargeDepth := 9) [xf49, hl, h0, hL, he, he', hln, hdn, c, c']
  · have c' : (300 : Int) < L.length := by omega
    simp [xf49, hl, h0, hln, hdn, c, c']
theorem w48 (s r : Int) (σ : Store) : Run X (.call 48) [.int .i64 s, .int .i64 r] σ = some (.ret, [.int .i64 (rmE s r)], σ) := by
  refine call2 (X := X) (a := .int .i64 s) (b := .int .i64 r) (v := .int .i64 (rmE s r)) hX.h48 rfl rfl (by decide) (fun tm hl h0 h1 => ?_) rfl σ
  simp only [AVal.strip, stripL] at h0 h1
  replace hl : tm.length = 13 := hl
  unfold Gives
  unfold rmE
  cases c1 : win s (-1000000) 1000000 <;> cases c2 : win r 0 1000000 <;> simp [xf48, hl, h0, h1, w33 hX, c1, c2]
end
end Go.Proofs.Ytgijgcmcpgepaaa.Eng

/-
  DISPATCH: powers that follow; copies; lists that are the same.
-/
namespace Go.Proofs.Ytgijgcmcpgepaaa.Eng
set_option linter.unusedSimpArgs false
set_option linter.unusedVariables false
theorem ones_ints (L : List Int) : ones (ints L) = true := by simp [ones, ints, AVal.cells, AVal.one]
section
variable {X : FuncId → Option XFunc} (hX : DxACode X)
include hX
theorem w20 {L : List Int} {s : AVal} (h : IntV L s) (hn : L.length ≤ 1000000) (σ : Store) : Run X (.call 20) [s] σ = some (.ret, [.list 1 (ints L) none], σ) := by
  have fr := ints_fr L
  have key : Run X (.call 20) [s] σ = some (.ret, [(AVal.list 1 (ints L) (some 0)).strip], σ) := by
    refine call1 (a := s) (v := .list 1 (ints L) (some 0)) hX.h20 (by rw [h.free.2]; exact h.free.1) (by decide) (fun tm hl h0 => ?_) (by simp [AVal.strip, AVal.free, freeL_strip fr, fr]) σ
    rw [h.free.2] at h0
    replace hl : tm.length = 6 := hl
    unfold Gives
    cases L with
    | nil =>
      rcases h with e | ⟨e, _⟩ <;> rw [e] at h0 <;> simp [xf20, hl, h0, xappend, AVal.isSlice, ints, ones, xresult_one, xret_t, Store.empty, Store.new, Store.put, Store.get, look, putL, setR, Store.only, Store.merge, touch, wrote, upTo, isIn, okRec, hits, capsOf, xcaps, stripL, AVal.strip, freeL, AVal.free, fillR, chunks, mkV, List.filter]
    | cons a l =>
      have e := h.ne (by simp)
      have ho := ones_ints (a :: l)
      have hil : ints (a :: l) = .int .i64 a :: ints l := rfl
      have hlen := ints_len l
      rw [e, hil] at h0
      rw [hil] at ho
      simp only [List.length_cons] at hn
      have b1 : (l.length + 1) * 8 ≤ 1000000000000 := by omega
      have b2 : l.length + 1 ≤ 1000000000000 := by omega
      simp [xf20, hl, h0, ho, hlen, b1, b2, hil, xappend, AVal.isSlice, xresult_one, xret_t, Store.empty, Store.new, Store.put, Store.get, look, putL, setR, Store.only, Store.merge, touch, wrote, upTo, isIn, okRec, hits, capsOf, xcaps, stripL, AVal.strip, freeL, AVal.free, fillR, chunks, mkV, List.filter]
  simpa [AVal.strip, freeL_strip fr] using key
omit hX in
theorem loop26 (L : List Int) {w v : AVal} (hw : IntV L w) (hv : IntV L v) (hn : L.length ≤ 1000000000) : ∀ (k i : Nat), i + k = L.length → ∀ (tm : List AVal) (σ : Store), tm.length = 26 → XOpd.eval tm (.t 0) = w → XOpd.eval tm (.t 1) = v → XOpd.eval tm (.t 5) = .int .i64 i →
    Ends (Run X (.code (.loop xf26l0)) tm σ) (.exit 0) fun tm' _ => tm'.length = 26
  | 0, i, hk, tm, σ, hl, h0, h1, h5 => by
    have hi : i = L.length := by omega
    subst hi
    obtain ⟨hx, hd⟩ := hw.len
    rw [Run_loop]
    simp [xf26l0, hl, h0, h5, hx, hd]
  | k + 1, i, hk, tm, σ, hl, h0, h1, h5 => by
    have hi : i < L.length := by omega
    have hiw : IntKind.i64.wrap ((i : Int) + 1) = ((i + 1 : Nat) : Int) := by rw [wrap_i64] <;> omega
    have e0 : XOpd.eval tm (.t 0) = .list 1 (ints L) none := by rw [h0]; exact hw.ne (by intro e; simp [e] at hi)
    have e1 : XOpd.eval tm (.t 1) = .list 1 (ints L) none := by rw [h1]; exact hv.ne (by intro e; simp [e] at hi)
    have hg := ints_get hi
    have hln := ints_len L
    have ih := loop26 L hw hv hn k (i + 1) (by omega)
    have key : Ends (Run X (.code xf26l0) tm σ) .normal fun tm' _ => tm'.length = 26 ∧ XOpd.eval tm' (.t 0) = .list 1 (ints L) none ∧ XOpd.eval tm' (.t 1) = .list 1 (ints L) none ∧ XOpd.eval tm' (.t 5) = .int .i64 ((i + 1 : Nat) : Int) := by
      simp [xf26l0, hl, e0, e1, h5, hi, hiw, ints, xload, xlen, AVal.cells, put_next, new_next, Store.get_new, Store.get_put, put_get, setR, only_get, merge_get', only_next, merge_next, upTo_self, upTo_one, merge_only, touch, wrote, isIn, okRec, hits, capsOf, xcaps, stripL, AVal.strip, freeL, AVal.free, fillR, chunks, mkV]
    obtain ⟨o1, o2, o3, o4, o5⟩ := out_of key
    rw [Run_loop, o1, thenC_normal]
    exact ih _ _ o2 (by rw [o3, ← h0, e0]) (by rw [o4, ← h1, e1]) o5
theorem w26 {L : List Int} {w v : AVal} (hw : IntV L w) (hv : IntV L v) (hn : L.length ≤ 1000000000) (σ : Store) : Run X (.call 26) [w, v] σ = some (.ret, [.bool true], σ) := by
  have hL := fun tm σ h1 h2 h3 h4 => out_of (loop26 (X := X) L hw hv hn L.length 0 (by omega) tm σ h1 h2 h3 h4)
  obtain ⟨hx, hd⟩ := hw.len
  obtain ⟨hy, hd'⟩ := hv.len
  have c0 : ((0 : Nat) : Int) = 0 := rfl
  simp only [c0] at hL
  refine call2 (v := .bool true) hX.h26 (by rw [hw.free.2]; exact hw.free.1) (by rw [hv.free.2]; exact hv.free.1) (by decide) (fun tm hl h0 h1 => ?_) rfl σ
  rw [hw.free.2] at h0
  rw [hv.free.2] at h1
  replace hl : tm.length = 26 := hl
  unfold Gives
  simp (maxDischargeDepth := 9) [xf26, hl, h0, h1, hx, hy, hd, hd', hL, Store.empty, Store.new, Store.put, Store.get, look, putL, setR, Store.only, Store.merge, touch, wrote, upTo, isIn, okRec, hits, capsOf, xcaps, stripL, AVal.strip, freeL, AVal.free, fillR, chunks, mkV, List.filter]
/-! Powers that follow, of the program. -/
omit hX in
def I46 (s r : Int) (L : List Int) (v : AVal) (i : Nat) (tm : List AVal) (σ : Store) : Prop :=
  tm.length = 48 ∧ XOpd.eval tm (.t 1) = .int .i64 r ∧ XOpd.eval tm (.t 10) = .int .i64 (fS s r L i) ∧ XOpd.eval tm (.t 27) = v ∧ XOpd.eval tm (.t 28) = .int .i64 L.length ∧ XOpd.eval tm (.t 29) = .int .i64 i ∧ OutG 3 1 σ 0 (ints (folL s r L i)) (XOpd.eval tm (.t 9))
omit hX in
theorem round46 {s r : Int} {L : List Int} {v : AVal} (hv : IntV L v) (h : FIn s r L) (i : Nat) (hi : i < L.length) (tm : List AVal) (σ : Store) (hI : I46 s r L v i tm σ) : Ends (Run X (.code xf46l0) tm σ) .normal (I46 s r L v (i + 1)) := by
  obtain ⟨hl, h1, h10, h27, h28, h29, ho⟩ := hI
  have hn := h.n
  have hiw : IntKind.i64.wrap ((i : Int) + 1) = ((i + 1 : Nat) : Int) := by rw [wrap_i64] <;> omega
  have hvv : v = .list 1 (ints L) none := hv.ne (by intro e; simp [e] at hi)
  subst hvv
  have hg := ints_get hi
  have hgd : L.getD i 0 = L[i] := by simp [hi]
  have hd := h.at i
  have r0 := h.r0
  have r1 := h.r1
  have eS : fS s r L (i + 1) = nxP r (fS s r L i) L[i] := by show nxP r _ (L.getD i 0) = _; rw [hgd]
  have hlen := folL_len s r L i
  have eF : ints (folL s r L (i + 1)) = ints (folL s r L i) ++ [.int .i64 (nxP r (fS s r L i) L[i])] := by rw [folL_succ, ints_app, eS]
  unfold I46
  rw [eF, eS]
  generalize folL s r L i = P at *
  generalize fS s r L i = p at *
  generalize hvo : XOpd.eval tm (.t 9) = vo at *
  have hpl := ints_len P
  obtain ⟨v', σ', a1, a2, a3, a4⟩ := out_append (bytes := 8) (ho.tok (.tok 3 1 1)) (Nat.zero_le _) (x := .int .i64 (nxP r p L[i])) rfl (by decide) (by omega) (by omega) (some σ.next)
  have w1 : IntKind.i64.wrap (p - r) = p - r := wrp (by omega) (by omega)
  have w2 : IntKind.i64.wrap (p + r) = p + r := wrp (by omega) (by omega)
  have e : Ends (Run X (.code xf46l0) tm σ) .normal fun tm' σ'' => tm'.length = 48 ∧ XOpd.eval tm' (.t 1) = .int .i64 r ∧ XOpd.eval tm' (.t 10) = .int .i64 (nxP r p L[i]) ∧ XOpd.eval tm' (.t 27) = .list 1 (ints L) none ∧ XOpd.eval tm' (.t 28) = .int .i64 L.length ∧ XOpd.eval tm' (.t 29) = .int .i64 ((i + 1 : Nat) : Int) ∧ XOpd.eval tm' (.t 9) = v' ∧ σ'' = σ' := by
    have n1 : imin (imax L[i] (p - r)) (p + r) = nxP r p L[i] := rfl
    simp [xf46l0, hl, h1, h10, h27, h28, h29, hvo, hi, hg, hiw, w1, w2, a1, n1, ints, xext, xmm_max, xmm_min, xload, AVal.cells, put_next, new_next, Store.get_new, Store.get_put, put_get, setR, only_get, merge_get', only_next, merge_next, upTo_self, upTo_one, merge_only, touch, wrote, isIn, okRec, hits, capsOf, xcaps, stripL, AVal.strip, freeL, AVal.free, fillR, chunks, mkV, -xmm]
  obtain ⟨o1, p1, p2, p3, p4, p5, p6, p7, p8⟩ := out_of e
  exact ⟨_, _, o1, p1, p2, p3, p4, p5, p6, by rw [p7, p8]; exact a2⟩
end
end Go.Proofs.Ytgijgcmcpgepaaa.Eng

/-
  DISPATCH: powers that follow, whole.
-/
namespace Go.Proofs.Ytgijgcmcpgepaaa.Eng
set_option linter.unusedSimpArgs false
set_option linter.unusedVariables false
def foE (s r : Int) (L : List Int) : Int := firstNZ [cw (-1000000) 1000000 [s], cw 0 1000000 [r], pwE L]
theorem foE_eq (s r : Int) (L : List Int) : foE s r L = if rmE s r = 0 then pwE L else rmE s r := by
  unfold foE rmE cw cw
  cases c1 : win s (-1000000) 1000000 <;> cases c2 : win r 0 1000000 <;> simp [firstNZ] <;> (intro h; exact h.symm)
section
variable {X : FuncId → Option XFunc} (hX : DxACode X)
include hX
omit hX in
theorem loop46 {s r : Int} {L : List Int} {v : AVal} (hv : IntV L v) (h : FIn s r L) (tm : List AVal) (σ : Store) (hI : I46 s r L v 0 tm σ) : Ends (Run X (.code (.loop xf46l0)) tm σ) (.exit 0) (I46 s r L v L.length) := by
  refine loop_all L.length (I46 s r L v) (by simp) (fun i tm σ hi h' => round46 hv h i hi tm σ h') (fun tm σ h' => ?_) tm σ hI
  obtain ⟨hl, h1, h10, h27, h28, h29, ho⟩ := h'
  unfold I46
  simp [xf46l0, hl, h1, h10, h27, h28, h29]
  exact ho
theorem w46bad {s r : Int} {L : List Int} {v : AVal} (hv : IntV L v) (hn : L.length ≤ 1000000000) (he : foE s r L ≠ 0) (σ : Store) : Run X (.call 46) [.int .i64 s, .int .i64 r, v] σ = some (.ret, [.tup [.nils, .int .i64 (foE s r L)]], σ) := by
  have u1 := fun t σ => w76 hX (m := 1000000) (by decide) (L := [s]) (v := .list 1 [.int .i64 s] t) (IntV.list _) (by simp) σ
  have u2 := fun t σ => w70 hX 0 1000000 (L := [r]) (v := .list 1 [.int .i64 r] t) (IntV.list _) (by simp) σ
  have u3 := w101 hX hv hn
  have u4 := first3 hX
  refine call3 (a := .int .i64 s) (b := .int .i64 r) (c := v) (v := .tup [.nils, .int .i64 (foE s r L)]) hX.h46 rfl rfl (by rw [hv.free.2]; exact hv.free.1) (by decide) (fun tm hl h0 h1 h2 => ?_) rfl σ
  simp only [AVal.strip] at h0 h1
  rw [hv.free.2] at h2
  replace hl : tm.length = 48 := hl
  have f1 := hv.free
  unfold Gives
  unfold foE at he ⊢
  simp [xf46, hl, h0, h1, h2, u1, u2, u3, u4, f1, he, xresult, xrets, xret_t, Store.empty, Store.new, Store.put, Store.get, look, putL, setR, Store.only, Store.merge, touch, wrote, upTo, isIn, okRec, hits, capsOf, xcaps, stripL, AVal.strip, freeL, AVal.free, fillR, chunks, mkV, List.filter]
theorem w46 {s r : Int} {L : List Int} {v : AVal} (hv : IntV L v) (he : foE s r L = 0) : ∃ q, IntV (folL s r L L.length) q ∧ ∀ σ, Run X (.call 46) [.int .i64 s, .int .i64 r, v] σ = some (.ret, [.tup [q, .int .i64 0]], σ) := by
  have hin : FIn s r L := by
    rw [foE_eq] at he
    by_cases c : rmE s r = 0
    · rw [if_pos c] at he; exact fin_of c he
    · rw [if_neg c] at he; exact absurd he c
  have hn : L.length ≤ 1000000000 := by have := hin.n; omega
  have u1 := fun t σ => w76 hX (m := 1000000) (by decide) (L := [s]) (v := .list 1 [.int .i64 s] t) (IntV.list _) (by simp) σ
  have u2 := fun t σ => w70 hX 0 1000000 (L := [r]) (v := .list 1 [.int .i64 r] t) (IntV.list _) (by simp) σ
  have u3 := w101 hX hv hn
  have u4 := first3 hX
  have key := call3E (X := X) (a := .int .i64 s) (b := .int .i64 r) (c := v) (Φ := fun w => ∃ q, IntV (folL s r L L.length) q ∧ w = .tup [q, .int .i64 0]) hX.h46 rfl rfl (by rw [hv.free.2]; exact hv.free.1) (by decide) (fun tm hl h0 h1 h2 => by
    simp only [AVal.strip] at h0 h1
    rw [hv.free.2] at h2
    replace hl : tm.length = 48 := hl
    have f1 := hv.free
    obtain ⟨hln, hdn⟩ := hv.len
    have eP : Ends (Run X (.code (XCode.cutP 4 xf46.body)) tm Store.empty) .normal (I46 s r L v 0) := by
      unfold foE at he
      unfold I46
      simp [xf46, XCode.cutP, hl, h0, h1, h2, u1, u2, u3, u4, f1, hln, hdn, he, fS, folL, Store.empty, Store.new, Store.put, Store.get, look, putL, setR, Store.only, Store.merge, touch, wrote, upTo, isIn, okRec, hits, capsOf, xcaps, stripL, AVal.strip, freeL, AVal.free, fillR, chunks, mkV, List.filter]
      exact .inl ⟨rfl, rfl⟩
    obtain ⟨o1, o2⟩ := out_of eP
    obtain ⟨q1, q2, q3, q4, q5, q6, q7, q8⟩ := out_of (loop46 (X := X) hv hin _ _ o2)
    unfold GivesE
    rw [Run_cut 4, o1, thenC_normal, show XCode.cutB 4 xf46.body = .block 0 (.loop xf46l0) from rfl, Run_block, q1, blockC_exit]
    generalize outT X (.loop xf46l0) _ _ = tm3 at *
    generalize outS X (.loop xf46l0) _ _ = σ3 at *
    obtain ⟨k1, k2⟩ := q8.ints
    generalize hw : XOpd.eval tm3 (.t 9) = w9 at k1 k2
    simp [xf46, XCode.cutR, q2, hw, xresult, xrets, xret_t]
    refine ⟨?_, w9.strip, k1, ?_⟩
    · simp [AVal.strip, stripL, AVal.free, freeL, k2]
    · simp [AVal.strip, stripL])
  obtain ⟨w, ⟨q, hq, rfl⟩, h⟩ := key
  exact ⟨q, hq, h⟩
/-! The reference's. -/
omit hX in
def I50 (s r : Int) (L : List Int) (v : AVal) (i : Nat) (tm : List AVal) (σ : Store) : Prop :=
  tm.length = 34 ∧ XOpd.eval tm (.t 1) = .int .i64 r ∧ XOpd.eval tm (.t 8) = .int .i64 (fS s r L i) ∧ XOpd.eval tm (.t 2) = v ∧ XOpd.eval tm (.t 9) = .int .i64 i ∧ OutG 3 1 σ 0 (ints (folL s r L i)) (XOpd.eval tm (.t 7))
omit hX in
theorem round50 {s r : Int} {L : List Int} {v : AVal} (hv : IntV L v) (h : FIn s r L) (i : Nat) (hi : i < L.length) (tm : List AVal) (σ : Store) (hI : I50 s r L v i tm σ) : Ends (Run X (.code xf50l0) tm σ) .normal (I50 s r L v (i + 1)) := by
  obtain ⟨hl, h1, h8, h2, h9, ho⟩ := hI
  have hn := h.n
  have hiw : IntKind.i64.wrap ((i : Int) + 1) = ((i + 1 : Nat) : Int) := by rw [wrap_i64] <;> omega
  have hvv : v = .list 1 (ints L) none := hv.ne (by intro e; simp [e] at hi)
  subst hvv
  have hgd : L.getD i 0 = L[i] := by simp [hi]
  have hd := h.at i
  have r0 := h.r0
  have r1 := h.r1
  have eS : fS s r L (i + 1) = nxP r (fS s r L i) L[i] := by show nxP r _ (L.getD i 0) = _; rw [hgd]
  have hlen := folL_len s r L i
  have eF : ints (folL s r L (i + 1)) = ints (folL s r L i) ++ [.int .i64 (nxP r (fS s r L i) L[i])] := by rw [folL_succ, ints_app, eS]
  unfold I50
  rw [eF, eS]
  generalize folL s r L i = P at *
  generalize fS s r L i = p at *
  generalize hvo : XOpd.eval tm (.t 7) = vo at *
  have hpl := ints_len P
  obtain ⟨v', σ', a1, a2, a3, a4⟩ := out_append (bytes := 8) (ho.tok (.tok 3 1 1)) (Nat.zero_le _) (x := .int .i64 (nxP r p L[i])) rfl (by decide) (by omega) (by omega) (some σ.next)
  have w1 : IntKind.i64.wrap (p - r) = p - r := wrp (by omega) (by omega)
  have w2 : IntKind.i64.wrap (p + r) = p + r := wrp (by omega) (by omega)
  have e : Ends (Run X (.code xf50l0) tm σ) .normal fun tm' σ'' => tm'.length = 34 ∧ XOpd.eval tm' (.t 1) = .int .i64 r ∧ XOpd.eval tm' (.t 8) = .int .i64 (nxP r p L[i]) ∧ XOpd.eval tm' (.t 2) = .list 1 (ints L) none ∧ XOpd.eval tm' (.t 9) = .int .i64 ((i + 1 : Nat) : Int) ∧ XOpd.eval tm' (.t 7) = v' ∧ σ'' = σ' := by
    have n1 : imax (p - r) (imin (p + r) L[i]) = nxP r p L[i] := nx_eq r0 p L[i]
    simp [xf50l0, hl, h1, h8, h2, h9, hvo, hi, hiw, w1, w2, a1, n1, ints, xlen, xext, xmm_max, xmm_min, xload, AVal.cells, put_next, new_next, Store.get_new, Store.get_put, put_get, setR, only_get, merge_get', only_next, merge_next, upTo_self, upTo_one, merge_only, touch, wrote, isIn, okRec, hits, capsOf, xcaps, stripL, AVal.strip, freeL, AVal.free, fillR, chunks, mkV, -xmm]
  obtain ⟨o1, p1, p2, p3, p4, p5, p6, p7⟩ := out_of e
  exact ⟨_, _, o1, p1, p2, p3, p4, p5, by rw [p6, p7]; exact a2⟩
omit hX in
theorem loop50 {s r : Int} {L : List Int} {v : AVal} (hv : IntV L v) (h : FIn s r L) (tm : List AVal) (σ : Store) (hI : I50 s r L v 0 tm σ) : Ends (Run X (.code (.loop xf50l0)) tm σ) (.exit 0) (I50 s r L v L.length) := by
  refine loop_all L.length (I50 s r L v) (by simp) (fun i tm σ hi h' => round50 hv h i hi tm σ h') (fun tm σ h' => ?_) tm σ hI
  obtain ⟨hl, h1, h8, h2, h9, ho⟩ := h'
  obtain ⟨hln, hdn⟩ := hv.len
  unfold I50
  simp [xf50l0, hl, h1, h8, h2, h9, hln, hdn]
  exact ho
theorem w50 {s r : Int} {L : List Int} {v : AVal} (hv : IntV L v) (hin : FIn s r L) : ∃ q, IntV (folL s r L L.length) q ∧ ∀ σ, Run X (.call 50) [.int .i64 s, .int .i64 r, v] σ = some (.ret, [q], σ) := by
  refine call3E (X := X) (a := .int .i64 s) (b := .int .i64 r) (c := v) (Φ := fun q => IntV (folL s r L L.length) q) hX.h50 rfl rfl (by rw [hv.free.2]; exact hv.free.1) (by decide) (fun tm hl h0 h1 h2 => ?_)
  simp only [AVal.strip] at h0 h1
  rw [hv.free.2] at h2
  replace hl : tm.length = 34 := hl
  have eP : Ends (Run X (.code (XCode.cutP 3 xf50.body)) tm Store.empty) .normal (I50 s r L v 0) := by
    unfold I50
    simp [xf50, XCode.cutP, hl, h0, h1, h2, fS, folL]
    exact .inl ⟨rfl, rfl⟩
  obtain ⟨o1, o2⟩ := out_of eP
  obtain ⟨q1, q2, q3, q4, q5, q6, q7⟩ := out_of (loop50 (X := X) hv hin _ _ o2)
  unfold GivesE
  rw [Run_cut 3, o1, thenC_normal, show XCode.cutB 3 xf50.body = .block 0 (.loop xf50l0) from rfl, Run_block, q1, blockC_exit]
  generalize outT X (.loop xf50l0) _ _ = tm3 at *
  generalize outS X (.loop xf50l0) _ _ = σ3 at *
  obtain ⟨k1, k2⟩ := q7.ints
  generalize hw : XOpd.eval tm3 (.t 7) = w9 at k1 k2
  simp [xf50, XCode.cutR, q2, hw, xresult, xrets, xret_t]
  exact ⟨k2, k1⟩
end
end Go.Proofs.Ytgijgcmcpgepaaa.Eng

/-
  DISPATCH: settlements.
-/
namespace Go.Proofs.Ytgijgcmcpgepaaa.Eng
set_option linter.unusedSimpArgs false
set_option linter.unusedVariables false
def set3 (a b c : Int) : List AVal := [.int .i64 a, .int .i64 b, .int .i64 c]
/-- Powers that are settled. -/
structure SIn (W M : List Int) : Prop where
  n : W.length ≤ 300
  l : W.length = M.length
  w : ∀ i, -1000000 ≤ W.getD i 0 ∧ W.getD i 0 ≤ 1000000
  m : ∀ i, -1000000 ≤ M.getD i 0 ∧ M.getD i 0 ≤ 1000000
def stE (W M : List Int) : Int := firstNZ [pwE W, pwE M, if decide ((W.length : Int) = M.length) then 0 else 10]
theorem stE_ok {W M : List Int} (h : stE W M = 0) : SIn W M := by
  unfold stE at h
  simp only [firstNZ] at h
  split at h
  · rename_i h1
    split at h
    · rename_i h2
      split at h
      · rename_i h3
        have a := pwE_ok h1
        have b := pwE_ok h2
        refine ⟨a.1, ?_, a.2, b.2⟩
        by_cases c : (W.length : Int) = M.length
        · omega
        · simp [c] at h3
      · simp at h
    · contradiction
  · contradiction
def IS (sp dp : Nat) (W M : List Int) (i : Nat) (σ : Store) : Prop := σ.get dp = some (.cells (set3 0 0 0)) ∧ σ.get sp = some (.cells (set3 (eS W M i) (mS W M i) (oS W M i))) ∧ ∃ N, σ.next = N + 3
section
variable {X : FuncId → Option XFunc} (hX : DxACode X)
include hX
omit hX in
def I47 (W M : List Int) (v w : AVal) (i : Nat) (tm : List AVal) (σ : Store) : Prop :=
  tm.length = 65 ∧ XOpd.eval tm (.t 1) = w ∧ XOpd.eval tm (.t 7) = .ptr 2 0 ∧ XOpd.eval tm (.t 4) = .ptr 0 0 ∧ XOpd.eval tm (.t 28) = v ∧ XOpd.eval tm (.t 29) = .int .i64 W.length ∧ XOpd.eval tm (.t 30) = .int .i64 i ∧ IS 2 0 W M i σ
set_option maxHeartbeats 4000000 in
theorem round47 {W M : List Int} {v w : AVal} (hv : IntV W v) (hw : IntV M w) (h : SIn W M) (i : Nat) (hi : i < W.length) (tm : List AVal) (σ : Store) (hI : I47 W M v w i tm σ) : Ends (Run X (.code xf47l0) tm σ) .normal (I47 W M v w (i + 1)) := by
  obtain ⟨hl, h1, h7, h4, h28, h29, h30, g0, g2, N, hN⟩ := hI
  have hn := h.n
  have hll := h.l
  have hi2 : i < M.length := by omega
  have hiw : IntKind.i64.wrap ((i : Int) + 1) = ((i + 1 : Nat) : Int) := by rw [wrap_i64] <;> omega
  have hvv : v = .list 1 (ints W) none := hv.ne (by intro e; simp [e] at hi)
  have hww : w = .list 1 (ints M) none := hw.ne (by intro e; simp [e] at hi2)
  subst hvv; subst hww
  have d1 : W.getD i 0 = W[i] := by simp [hi]
  have d2 : M.getD i 0 = M[i] := by simp [hi2]
  have a1 := h.w i
  have a2 := h.m i
  have b1 := eS_in (M := M) h.w i
  have b2 := mS_in (M := M) h.w i
  have b3 := oS_in (W := W) h.m i
  have c1 := nrg_in (W.getD i 0) (M.getD i 0)
  have s1 := sz_le a1
  have s2 := sz_le a2
  unfold I47 IS
  rw [eS_succ, mS_succ, oS_succ]
  rw [d1, d2] at *
  have u1 := fun σ => w102 hX (w := W[i]) (m := M[i]) (wrp (by omega) (by omega)) (wrp (by omega) (by omega)) σ
  have u2 := fun σ => w103 hX (a := W[i]) (wrp (by omega) (by omega)) σ
  have u3 := fun σ => w103 hX (a := M[i]) (wrp (by omega) (by omega)) σ
  have w1 : IntKind.i64.wrap (eS W M i + nrg W[i] M[i]) = eS W M i + nrg W[i] M[i] := wrp (by omega) (by omega)
  have w2 : IntKind.i64.wrap (sz W[i] - nrg W[i] M[i]) = sz W[i] - nrg W[i] M[i] := wrp (by omega) (by omega)
  have w3 : IntKind.i64.wrap (sz M[i] - nrg W[i] M[i]) = sz M[i] - nrg W[i] M[i] := wrp (by omega) (by omega)
  have w4 : IntKind.i64.wrap (mS W M i + (sz W[i] - nrg W[i] M[i])) = mS W M i + (sz W[i] - nrg W[i] M[i]) := wrp (by omega) (by omega)
  have w5 : IntKind.i64.wrap (oS W M i + (sz M[i] - nrg W[i] M[i])) = oS W M i + (sz M[i] - nrg W[i] M[i]) := wrp (by omega) (by omega)
  generalize eS W M i = ee at *
  generalize mS W M i = mm at *
  generalize oS W M i = oo at *
  generalize nrg W[i] M[i] = nn at *
  simp [xf47l0, hl, h1, h7, h4, h28, h29, h30, g0, g2, hN, hi, hi2, hiw, u1, u2, u3, w1, w2, w3, w4, w5, ints, set3, xload, xlen, AVal.cells, AVal.one, put_next, new_next, Store.get_new, Store.get_put, put_get, setR, only_get, merge_get', only_next, merge_next, upTo_self, upTo_one, merge_only, touch, wrote, isIn, okRec, hits, capsOf, xcaps, stripL, AVal.strip, freeL, AVal.free, fillR, chunks, mkV]
omit hX in
theorem stE_bad {W M : List Int} (h : stE W M ≠ 0) : stE W M = if pwE W = 0 then (if pwE M = 0 then 10 else pwE M) else pwE W := by
  unfold stE at h ⊢
  simp only [firstNZ] at h ⊢
  by_cases c1 : pwE W = 0
  · simp only [c1, if_true] at h ⊢
    by_cases c2 : pwE M = 0
    · simp only [c2, if_true] at h ⊢
      by_cases c3 : (W.length : Int) = M.length
      · simp [c3] at h
      · simp [c3]
    · simp only [c2, if_false]
  · simp only [c1, if_false]
theorem loop47 {W M : List Int} {v w : AVal} (hv : IntV W v) (hw : IntV M w) (h : SIn W M) (tm : List AVal) (σ : Store) (hI : I47 W M v w 0 tm σ) : Ends (Run X (.code (.loop xf47l0)) tm σ) (.exit 0) (I47 W M v w W.length) := by
  refine loop_all W.length (I47 W M v w) (by simp) (fun i tm σ hi h' => round47 hX hv hw h i hi tm σ h') (fun tm σ h' => ?_) tm σ hI
  obtain ⟨hl, h1, h7, h4, h28, h29, h30, hs⟩ := h'
  unfold I47
  simp [xf47l0, hl, h1, h7, h4, h28, h29, h30]
  exact hs
theorem w47bad {W M : List Int} {v w : AVal} (hv : IntV W v) (hw : IntV M w) (hn : W.length ≤ 1000000000) (hm : M.length ≤ 1000000000) (he : stE W M ≠ 0) (σ : Store) : Run X (.call 47) [v, w] σ = some (.ret, [.tup [.agg (set3 0 0 0), .int .i64 (stE W M)]], σ) := by
  have u1 := w101 hX hv hn
  have u2 := w101 hX hw hm
  have u3 := w71 hX
  have u4 := first3 hX
  refine call2 (a := v) (b := w) (v := .tup [.agg (set3 0 0 0), .int .i64 (stE W M)]) hX.h47 (by rw [hv.free.2]; exact hv.free.1) (by rw [hw.free.2]; exact hw.free.1) (by decide) (fun tm hl h0 h1 => ?_) rfl σ
  rw [hv.free.2] at h0
  rw [hw.free.2] at h1
  replace hl : tm.length = 65 := hl
  have f1 := hv.free
  have f2 := hw.free
  obtain ⟨k1, k2⟩ := hv.len
  obtain ⟨k3, k4⟩ := hw.len
  unfold Gives
  unfold stE at he ⊢
  by_cases c : (W.length : Int) = M.length
  · have c' : W.length = M.length := by omega
    simp only [c', decide_true, if_true] at he ⊢
    simp [xf47, hl, h0, h1, u1, u2, u3, u4, f1, f2, k1, k2, k3, k4, c', he, set3, xload, AVal.cells, AVal.one, xresult, xrets, xret_t, xret_cn, Store.empty, Store.new, Store.put, Store.get, look, putL, setR, Store.only, Store.merge, touch, wrote, upTo, isIn, okRec, hits, capsOf, xcaps, stripL, AVal.strip, freeL, AVal.free, fillR, chunks, mkV, List.filter]
  · have c' : ¬ W.length = M.length := by omega
    simp only [c, decide_false, Bool.false_eq_true, if_false] at he ⊢
    simp [xf47, hl, h0, h1, u1, u2, u3, u4, f1, f2, k1, k2, k3, k4, c, he, set3, xload, AVal.cells, AVal.one, xresult, xrets, xret_t, xret_cn, Store.empty, Store.new, Store.put, Store.get, look, putL, setR, Store.only, Store.merge, touch, wrote, upTo, isIn, okRec, hits, capsOf, xcaps, stripL, AVal.strip, freeL, AVal.free, fillR, chunks, mkV, List.filter]
theorem w47 {W M : List Int} {v w : AVal} (hv : IntV W v) (hw : IntV M w) (he : stE W M = 0) (σ : Store) : Run X (.call 47) [v, w] σ = some (.ret, [.tup [.agg (set3 (eS W M W.length) (mS W M W.length) (oS W M W.length)), .int .i64 0]], σ) := by
  have hin := stE_ok he
  have hn : W.length ≤ 1000000000 := by have := hin.n; omega
  have hm : M.length ≤ 1000000000 := by have := hin.n; have := hin.l; omega
  have u1 := w101 hX hv hn
  have u2 := w101 hX hw hm
  have u3 := w71 hX
  have u4 := first3 hX
  refine call2 (a := v) (b := w) (v := .tup [.agg (set3 (eS W M W.length) (mS W M W.length) (oS W M W.length)), .int .i64 0]) hX.h47 (by rw [hv.free.2]; exact hv.free.1) (by rw [hw.free.2]; exact hw.free.1) (by decide) (fun tm hl h0 h1 => ?_) rfl σ
  rw [hv.free.2] at h0
  rw [hw.free.2] at h1
  replace hl : tm.length = 65 := hl
  have f1 := hv.free
  have f2 := hw.free
  obtain ⟨k1, k2⟩ := hv.len
  obtain ⟨k3, k4⟩ := hw.len
  have c' : W.length = M.length := hin.l
  unfold stE at he
  simp only [c', decide_true, if_true] at he
  have eP : Ends (Run X (.code (XCode.cutP 3 xf47.body)) tm Store.empty) .normal (I47 W M v w 0) := by
    unfold I47 IS
    simp [xf47, XCode.cutP, hl, h0, h1, u1, u2, u3, u4, f1, f2, k1, k2, k3, k4, c', he, set3, eS, mS, oS, xload, AVal.cells, AVal.one, Store.empty, Store.new, Store.put, Store.get, look, putL, setR, Store.only, Store.merge, touch, wrote, upTo, isIn, okRec, hits, capsOf, xcaps, stripL, AVal.strip, freeL, AVal.free, fillR, chunks, mkV, List.filter]
  obtain ⟨o1, o2⟩ := out_of eP
  obtain ⟨q1, q2, q3, q4, q5, q6, q7, q8, q9, q10, N, hN⟩ := out_of (loop47 hX hv hw hin _ _ o2)
  unfold Gives
  rw [Run_cut 3, o1, thenC_normal, show XCode.cutB 3 xf47.body = .block 0 (.loop xf47l0) from rfl, Run_block, q1, blockC_exit]
  generalize outT X (.loop xf47l0) _ _ = tm3 at *
  generalize outS X (.loop xf47l0) _ _ = σ3 at *
  generalize eS W M W.length = ee at *
  generalize mS W M W.length = mm at *
  generalize oS W M W.length = oo at *
  unfold set3 at *
  simp [xf47, XCode.cutR, q2, q4, q5, q9, q10, hN, xload, AVal.cells, AVal.one, xresult, xrets, xret_t, xret_cn, put_next, new_next, Store.get_new, Store.get_put, put_get, setR, only_get, merge_get', only_next, merge_next, upTo_self, upTo_one, merge_only, touch, wrote, isIn, okRec, hits, capsOf, xcaps, stripL, AVal.strip, freeL, AVal.free, fillR, chunks, mkV]
/-! The reference's. -/
omit hX in
def I51 (W M : List Int) (v w : AVal) (i : Nat) (tm : List AVal) (σ : Store) : Prop :=
  tm.length = 65 ∧ XOpd.eval tm (.t 0) = v ∧ XOpd.eval tm (.t 1) = w ∧ XOpd.eval tm (.t 5) = .ptr 1 0 ∧ XOpd.eval tm (.t 4) = .ptr 0 0 ∧ XOpd.eval tm (.t 6) = .int .i64 i ∧ σ.get 0 = some (.cells (set3 0 0 0)) ∧ σ.get 1 = some (.cells (set3 (eS W M i) (mS W M i) (oS W M i))) ∧ ∃ N, σ.next = N + 2
set_option maxHeartbeats 4000000 in
theorem round51 {W M : List Int} {v w : AVal} (hv : IntV W v) (hw : IntV M w) (h : SIn W M) (i : Nat) (hi : i < W.length) (tm : List AVal) (σ : Store) (hI : I51 W M v w i tm σ) : Ends (Run X (.code xf51l0) tm σ) .normal (I51 W M v w (i + 1)) := by
  obtain ⟨hl, h0, h1, h5, h4, h6, g0, g2, N, hN⟩ := hI
  have hn := h.n
  have hll := h.l
  have hi2 : i < M.length := by omega
  have hiw : IntKind.i64.wrap ((i : Int) + 1) = ((i + 1 : Nat) : Int) := by rw [wrap_i64] <;> omega
  have hvv : v = .list 1 (ints W) none := hv.ne (by intro e; simp [e] at hi)
  have hww : w = .list 1 (ints M) none := hw.ne (by intro e; simp [e] at hi2)
  subst hvv; subst hww
  have d1 : W.getD i 0 = W[i] := by simp [hi]
  have d2 : M.getD i 0 = M[i] := by simp [hi2]
  have a1 := h.w i
  have a2 := h.m i
  have b1 := eS_in (M := M) h.w i
  have b2 := mS_in (M := M) h.w i
  have b3 := oS_in (W := W) h.m i
  have c1 := nrg_in (W.getD i 0) (M.getD i 0)
  have s1 := sz_le a1
  have s2 := sz_le a2
  unfold I51
  rw [eS_succ, mS_succ, oS_succ]
  rw [d1, d2] at *
  have u2 := fun σ => w52 hX (a := W[i]) (wrp (by omega) (by omega)) σ
  have u3 := fun σ => w52 hX (a := M[i]) (wrp (by omega) (by omega)) σ
  have ne := nr_eq W[i] M[i]
  unfold nrV at ne
  have w1 : IntKind.i64.wrap (eS W M i + nrg W[i] M[i]) = eS W M i + nrg W[i] M[i] := wrp (by omega) (by omega)
  have w2 : IntKind.i64.wrap (mS W M i + sz W[i]) = mS W M i + sz W[i] := wrp (by omega) (by omega)
  have w3 : IntKind.i64.wrap (oS W M i + sz M[i]) = oS W M i + sz M[i] := wrp (by omega) (by omega)
  have w4 : IntKind.i64.wrap (mS W M i + sz W[i] - nrg W[i] M[i]) = mS W M i + (sz W[i] - nrg W[i] M[i]) := by rw [wrp (by omega) (by omega)]; omega
  have w5 : IntKind.i64.wrap (oS W M i + sz M[i] - nrg W[i] M[i]) = oS W M i + (sz M[i] - nrg W[i] M[i]) := by rw [wrp (by omega) (by omega)]; omega
  generalize eS W M i = ee at *
  generalize mS W M i = mm at *
  generalize oS W M i = oo at *
  generalize nrg W[i] M[i] = nn at *
  have gx : ∀ h, (ints W)[i]'h = .int .i64 W[i] := fun h => by simp [ints]
  have gy : ∀ h, (ints M)[i]'h = .int .i64 M[i] := fun h => by simp [ints]
  have lx := ints_len W
  have ly := ints_len M
  generalize W[i] = x at *
  generalize M[i] = y at *
  generalize ints W = A at *
  generalize ints M = B at *
  have hi' : i < A.length := by omega
  have hi2' : i < B.length := by omega
  have key : ∀ nn', nn' = nn → Ends (Run X (.code xf51l0) tm σ) .normal fun tm' σ' => tm'.length = 65 ∧ XOpd.eval tm' (.t 0) = .list 1 A none ∧ XOpd.eval tm' (.t 1) = .list 1 B none ∧ XOpd.eval tm' (.t 5) = .ptr 1 0 ∧ XOpd.eval tm' (.t 4) = .ptr 0 0 ∧ XOpd.eval tm' (.t 6) = .int .i64 ((i + 1 : Nat) : Int) ∧ σ'.get 0 = some (.cells (set3 0 0 0)) ∧ σ'.get 1 = some (.cells (set3 (ee + nn') (mm + (sz x - nn')) (oo + (sz y - nn')))) ∧ ∃ N, σ'.next = N + 2 := by
    intro nn' hnn
    subst hnn
    rcases Int.lt_trichotomy x 0 with cx | cx | cx
    · have c1 : ¬ 0 < x := by omega
      by_cases c4 : y < 0
      · rw [if_pos (.inr ⟨cx, c4⟩)] at ne
        rw [← ne] at w1 w4 w5 ⊢
        simp [xf51l0, hl, h0, h1, h5, h4, h6, g0, g2, hN, hi, hi2, hi', hi2', lx, ly, gx, gy, hiw, u2, u3, w1, w2, w3, w4, w5, c1, cx, c4, set3, xload, xlen, xext, xmm_min, AVal.cells, AVal.one, put_next, new_next, Store.get_new, Store.get_put, put_get, setR, only_get, merge_get', only_next, merge_next, upTo_self, upTo_one, merge_only, touch, wrote, isIn, okRec, hits, capsOf, xcaps, stripL, AVal.strip, freeL, AVal.free, fillR, chunks, mkV, -xmm]
      · rw [if_neg (by omega)] at ne
        rw [← ne] at w1 w4 w5 ⊢
        simp only [Int.add_zero, Int.sub_zero] at w1 w4 w5
        simp [xf51l0, hl, h0, h1, h5, h4, h6, g0, g2, hN, hi, hi2, hi', hi2', lx, ly, gx, gy, hiw, u2, u3, w1, w2, w3, w4, w5, c1, cx, c4, set3, xload, xlen, AVal.cells, AVal.one, put_next, new_next, Store.get_new, Store.get_put, put_get, setR, only_get, merge_get', only_next, merge_next, upTo_self, upTo_one, merge_only, touch, wrote, isIn, okRec, hits, capsOf, xcaps, stripL, AVal.strip, freeL, AVal.free, fillR, chunks, mkV]
    · subst cx
      rw [if_neg (by omega)] at ne
      rw [← ne] at w1 w4 w5 ⊢
      simp only [Int.add_zero, Int.sub_zero] at w1 w4 w5
      simp [xf51l0, hl, h0, h1, h5, h4, h6, g0, g2, hN, hi, hi2, hi', hi2', lx, ly, gx, gy, hiw, u2, u3, w1, w2, w3, w4, w5, set3, xload, xlen, AVal.cells, AVal.one, put_next, new_next, Store.get_new, Store.get_put, put_get, setR, only_get, merge_get', only_next, merge_next, upTo_self, upTo_one, merge_only, touch, wrote, isIn, okRec, hits, capsOf, xcaps, stripL, AVal.strip, freeL, AVal.free, fillR, chunks, mkV]
    · have c3 : ¬ x < 0 := by omega
      by_cases c4 : 0 < y
      · rw [if_pos (.inl ⟨cx, c4⟩)] at ne
        rw [← ne] at w1 w4 w5 ⊢
        simp [xf51l0, hl, h0, h1, h5, h4, h6, g0, g2, hN, hi, hi2, hi', hi2', lx, ly, gx, gy, hiw, u2, u3, w1, w2, w3, w4, w5, c3, cx, c4, set3, xload, xlen, xext, xmm_min, AVal.cells, AVal.one, put_next, new_next, Store.get_new, Store.get_put, put_get, setR, only_get, merge_get', only_next, merge_next, upTo_self, upTo_one, merge_only, touch, wrote, isIn, okRec, hits, capsOf, xcaps, stripL, AVal.strip, freeL, AVal.free, fillR, chunks, mkV, -xmm]
      · rw [if_neg (by omega)] at ne
        rw [← ne] at w1 w4 w5 ⊢
        simp only [Int.add_zero, Int.sub_zero] at w1 w4 w5
        simp [xf51l0, hl, h0, h1, h5, h4, h6, g0, g2, hN, hi, hi2, hi', hi2', lx, ly, gx, gy, hiw, u2, u3, w1, w2, w3, w4, w5, c3, cx, c4, set3, xload, xlen, AVal.cells, AVal.one, put_next, new_next, Store.get_new, Store.get_put, put_get, setR, only_get, merge_get', only_next, merge_next, upTo_self, upTo_one, merge_only, touch, wrote, isIn, okRec, hits, capsOf, xcaps, stripL, AVal.strip, freeL, AVal.free, fillR, chunks, mkV]
  exact key nn rfl
theorem loop51 {W M : List Int} {v w : AVal} (hv : IntV W v) (hw : IntV M w) (h : SIn W M) (tm : List AVal) (σ : Store) (hI : I51 W M v w 0 tm σ) : Ends (Run X (.code (.loop xf51l0)) tm σ) (.exit 0) (I51 W M v w W.length) := by
  refine loop_all W.length (I51 W M v w) (by simp) (fun i tm σ hi h' => round51 hX hv hw h i hi tm σ h') (fun tm σ h' => ?_) tm σ hI
  obtain ⟨hl, h0, h1, h5, h4, h6, hs⟩ := h'
  obtain ⟨k1, k2⟩ := hv.len
  unfold I51
  simp [xf51l0, hl, h0, h1, h5, h4, h6, k1, k2]
  exact hs
theorem w51 {W M : List Int} {v w : AVal} (hv : IntV W v) (hw : IntV M w) (hin : SIn W M) (σ : Store) : Run X (.call 51) [v, w] σ = some (.ret, [.agg (set3 (eS W M W.length) (mS W M W.length) (oS W M W.length))], σ) := by
  refine call2 (a := v) (b := w) (v := .agg (set3 (eS W M W.length) (mS W M W.length) (oS W M W.length))) hX.h51 (by rw [hv.free.2]; exact hv.free.1) (by rw [hw.free.2]; exact hw.free.1) (by decide) (fun tm hl h0 h1 => ?_) rfl σ
  rw [hv.free.2] at h0
  rw [hw.free.2] at h1
  replace hl : tm.length = 65 := hl
  have eP : Ends (Run X (.code (XCode.cutP 2 xf51.body)) tm Store.empty) .normal (I51 W M v w 0) := by
    unfold I51
    simp [xf51, XCode.cutP, hl, h0, h1, set3, eS, mS, oS, Store.empty, Store.new, Store.put, Store.get, look, putL, setR, Store.only, Store.merge, touch, wrote, upTo, isIn, okRec, hits, capsOf, xcaps, stripL, AVal.strip, freeL, AVal.free, fillR, chunks, mkV, List.filter]
  obtain ⟨o1, o2⟩ := out_of eP
  obtain ⟨q1, q2, q3, q4, q5, q6, q7, q8, q9, N, hN⟩ := out_of (loop51 hX hv hw hin _ _ o2)
  unfold Gives
  rw [Run_cut 2, o1, thenC_normal, show XCode.cutB 2 xf51.body = .block 0 (.loop xf51l0) from rfl, Run_block, q1, blockC_exit]
  generalize outT X (.loop xf51l0) _ _ = tm3 at *
  generalize outS X (.loop xf51l0) _ _ = σ3 at *
  generalize eS W M W.length = ee at *
  generalize mS W M W.length = mm at *
  generalize oS W M W.length = oo at *
  unfold set3 at *
  simp [xf51, XCode.cutR, q2, q5, q6, q8, q9, hN, xload, AVal.cells, AVal.one, xresult, xrets, xret_t, xret_cn, put_next, new_next, Store.get_new, Store.get_put, put_get, setR, only_get, merge_get', only_next, merge_next, upTo_self, upTo_one, merge_only, touch, wrote, isIn, okRec, hits, capsOf, xcaps, stripL, AVal.strip, freeL, AVal.free, fillR, chunks, mkV]
theorem w45 {L : List Int} {v : AVal} (hv : IntV L v) (σ : Store) : Run X (.call 45) [v] σ = some (.ret, [.bool (decide (L.length ≤ 80) || (decide (300 < L.length) && decide (L.length ≤ 302)))], σ) := by
  obtain ⟨k1, k2⟩ := hv.len
  refine call1 (a := v) (v := .bool (decide (L.length ≤ 80) || (decide (300 < L.length) && decide (L.length ≤ 302)))) hX.h45 (by rw [hv.free.2]; exact hv.free.1) (by decide) (fun tm hl h0 => ?_) rfl σ
  rw [hv.free.2] at h0
  replace hl : tm.length = 16 := hl
  unfold Gives
  have d1 : ((L.length : Int) ≤ 80) ↔ L.length ≤ 80 := by omega
  have d2 : ((300 : Int) < L.length) ↔ 300 < L.length := by omega
  have d3 : ((L.length : Int) ≤ 302) ↔ L.length ≤ 302 := by omega
  by_cases c1 : L.length ≤ 80 <;> by_cases c2 : 300 < L.length <;> simp [xf45, hl, h0, k1, k2, d1, d2, d3, c1, c2]
end
end Go.Proofs.Ytgijgcmcpgepaaa.Eng

/-
  DISPATCH: the law of activations.
-/
namespace Go.Proofs.Ytgijgcmcpgepaaa.Eng
set_option linter.unusedSimpArgs false
set_option linter.unusedVariables false
def smB (L : List Int) : Bool := decide (L.length ≤ 80) || (decide (300 < L.length) && decide (L.length ≤ 302))
theorem smB_le {L : List Int} (h : smB L = true) : L.length ≤ 302 := by
  unfold smB at h
  simp only [Bool.or_eq_true, Bool.and_eq_true, decide_eq_true_eq] at h
  omega
section
variable {X : FuncId → Option XFunc} (hX : DxACode X)
include hX
set_option maxHeartbeats 8000000 in
theorem w8 (hA : ∀ σ, Run X (.call 12) [] σ = some (.ret, [.bool true], σ)) (s r : Int) {L M : List Int} {v w : AVal} (hv : IntV L v) (hw : IntV M w) (σ : Store) : Run X (.call 8) [.agg [.int .i64 s, .int .i64 r], v, w] σ = some (.ret, [.bool true], σ) := by
  refine call3 (a := .agg [.int .i64 s, .int .i64 r]) (b := v) (c := w) (v := .bool true) hX.h8 rfl (by rw [hv.free.2]; exact hv.free.1) (by rw [hw.free.2]; exact hw.free.1) (by decide) (fun tm hl h0 h1 h2 => ?_) rfl σ
  rw [hv.free.2] at h1
  rw [hw.free.2] at h2
  simp only [AVal.strip, stripL] at h0
  replace hl : tm.length = 114 := hl
  have f1 := hv.free
  have f2 := hw.free
  have u45 : ∀ σ, Run X (.call 45) [v] σ = some (.ret, [.bool (smB L)], σ) := w45 hX hv
  have u45' : ∀ σ, Run X (.call 45) [w] σ = some (.ret, [.bool (smB M)], σ) := w45 hX hw
  obtain ⟨k1, k2⟩ := hv.len
  obtain ⟨k3, k4⟩ := hw.len
  have fr1 := ints_fr L
  have fs1 := freeL_strip fr1
  have fr2 := ints_fr M
  have fs2 := freeL_strip fr2
  unfold Gives
  cases s1 : smB L
  · simp [xf8, hl, h0, h1, h2, hA, u45, s1, f1, Store.empty, Store.new, Store.put, Store.get, look, putL, setR, Store.only, Store.merge, touch, wrote, upTo, isIn, okRec, hits, capsOf, xcaps, stripL, AVal.strip, freeL, AVal.free, fillR, chunks, mkV, List.filter]
  cases s2 : smB M
  · simp [xf8, hl, h0, h1, h2, hA, u45, u45', s1, s2, f1, f2, Store.empty, Store.new, Store.put, Store.get, look, putL, setR, Store.only, Store.merge, touch, wrote, upTo, isIn, okRec, hits, capsOf, xcaps, stripL, AVal.strip, freeL, AVal.free, fillR, chunks, mkV, List.filter]
  have b1 := smB_le s1
  have b2 := smB_le s2
  have u20 := w20 hX hv (by omega)
  have u20' := w20 hX hw (by omega)
  have hv' : IntV L (.list 1 (ints L) none) := IntV.list L
  have hw' : IntV M (.list 1 (ints M) none) := IntV.list M
  have u48 := w48 hX s r
  have u49 := w49 hX hv (by omega)
  have u49' := w49 hX hw (by omega)
  have e1 := foE_eq s r L
  have hL : (L.length : Int) = M.length ↔ L.length = M.length := by omega
  have k5 := fun (hs : stE L M = 0) => w47 hX hv' hw' hs
  have k6 := fun (hs : stE L M ≠ 0) => w47bad hX hv' hw' (by omega) (by omega) hs
  have k7 := fun (hs : stE L M = 0) => w51 hX hv hw (stE_ok hs)
  generalize eS L M L.length = ee at *
  generalize mS L M L.length = mm at *
  generalize oS L M L.length = oo at *
  have e2 : stE L M = if pwE L = 0 then (if pwE M = 0 then (if L.length = M.length then 0 else 10) else pwE M) else pwE L := by
    unfold stE
    by_cases c1 : pwE L = 0 <;> by_cases c2 : pwE M = 0 <;> by_cases c3 : L.length = M.length <;> simp [firstNZ, c1, c2, c3, hL]
  by_cases d1 : rmE s r = 0 <;> by_cases d2 : pwE L = 0
  · simp only [d1, d2, if_true] at e1 e2
    have hin : FIn s r L := fin_of d1 d2
    obtain ⟨q, hq, u46⟩ := w46 hX hv' e1
    obtain ⟨q', hq', u50⟩ := w50 hX hv hin
    have u26 := w26 hX hq hq' (by rw [folL_len]; omega)
    have g1 := hq.free
    have g2 := hq'.free
    obtain ⟨g3, g4⟩ := hq.len
    by_cases d3 : pwE M = 0
    · by_cases d4 : L.length = M.length
      · simp only [d3, d4, if_true] at e2
        have u47 := k5 e2
        have u51 := k7 e2
        simp [xf8, hl, h0, h1, h2, hA, u45, u45', s1, s2, f1, f2, u20, u20', u46, u47, u48, u49, u49', u50, u51, u26, d1, d2, d3, d4, k1, k2, k3, k4, g1, g2, g3, g4, fr1, fs1, fr2, fs2, set3, fillR, xload, AVal.cells, AVal.one, Store.empty, Store.new, Store.put, Store.get, look, putL, setR, Store.only, Store.merge, touch, wrote, upTo, isIn, okRec, hits, capsOf, xcaps, stripL, AVal.strip, freeL, AVal.free, fillR, chunks, mkV, List.filter]
      · simp only [d3, d4, if_true, if_false] at e2
        have u47 := k6 (by omega)
        rw [e2] at u47
        have d4' : ¬ (L.length : Int) = M.length := by omega
        simp [xf8, hl, h0, h1, h2, hA, u45, u45', s1, s2, f1, f2, u20, u20', u46, u47, u48, u49, u49', u50, u26, d1, d2, d3, d4',  k1, k2, k3, k4, g1, g2, g3, g4, fr1, fs1, fr2, fs2, set3, fillR, xload, AVal.cells, AVal.one, Store.empty, Store.new, Store.put, Store.get, look, putL, setR, Store.only, Store.merge, touch, wrote, upTo, isIn, okRec, hits, capsOf, xcaps, stripL, AVal.strip, freeL, AVal.free, fillR, chunks, mkV, List.filter]
    · simp only [d3, if_false] at e2
      have u47 := k6 (by omega)
      rw [e2] at u47
      simp [xf8, hl, h0, h1, h2, hA, u45, u45', s1, s2, f1, f2, u20, u20', u46, u47, u48, u49, u49', u50, u26, d1, d2, d3, k1, k2, k3, k4, g1, g2, g3, g4, fr1, fs1, fr2, fs2, set3, fillR, xload, AVal.cells, AVal.one, Store.empty, Store.new, Store.put, Store.get, look, putL, setR, Store.only, Store.merge, touch, wrote, upTo, isIn, okRec, hits, capsOf, xcaps, stripL, AVal.strip, freeL, AVal.free, fillR, chunks, mkV, List.filter]
  · simp only [d1, d2, if_true, if_false] at e1 e2
    have u46 := w46bad hX (s := s) (r := r) hv' (by omega) (by omega)
    rw [e1] at u46
    have u47 := k6 (by omega)
    rw [e2] at u47
    simp [xf8, hl, h0, h1, h2, hA, u45, u45', s1, s2, f1, f2, u20, u20', u46, u47, u48, u49, u49', d1, d2, k1, k2, k3, k4, fr1, fs1, fr2, fs2, set3, fillR, xload, AVal.cells, AVal.one, Store.empty, Store.new, Store.put, Store.get, look, putL, setR, Store.only, Store.merge, touch, wrote, upTo, isIn, okRec, hits, capsOf, xcaps, stripL, AVal.strip, freeL, AVal.free, fillR, chunks, mkV, List.filter]
  · simp only [d1, d2, if_true, if_false] at e1 e2
    have u46 := w46bad hX (s := s) (r := r) hv' (by omega) (by omega)
    rw [e1] at u46
    by_cases d3 : pwE M = 0
    · by_cases d4 : L.length = M.length
      · simp only [d3, d4, if_true] at e2
        have u47 := k5 e2
        have u51 := k7 e2
        simp [xf8, hl, h0, h1, h2, hA, u45, u45', s1, s2, f1, f2, u20, u20', u46, u47, u48, u49, u49', u51, d1, d2, d3, d4, k1, k2, k3, k4, fr1, fs1, fr2, fs2, set3, fillR, xload, AVal.cells, AVal.one, Store.empty, Store.new, Store.put, Store.get, look, putL, setR, Store.only, Store.merge, touch, wrote, upTo, isIn, okRec, hits, capsOf, xcaps, stripL, AVal.strip, freeL, AVal.free, fillR, chunks, mkV, List.filter]
      · simp only [d3, d4, if_true, if_false] at e2
        have u47 := k6 (by omega)
        rw [e2] at u47
        have d4' : ¬ (L.length : Int) = M.length := by omega
        simp [xf8, hl, h0, h1, h2, hA, u45, u45', s1, s2, f1, f2, u20, u20', u46, u47, u48, u49, u49', d1, d2, d3, d4', k1, k2, k3, k4, fr1, fs1, fr2, fs2, set3, fillR, xload, AVal.cells, AVal.one, Store.empty, Store.new, Store.put, Store.get, look, putL, setR, Store.only, Store.merge, touch, wrote, upTo, isIn, okRec, hits, capsOf, xcaps, stripL, AVal.strip, freeL, AVal.free, fillR, chunks, mkV, List.filter]
    · simp only [d3, if_false] at e2
      have u47 := k6 (by omega)
      rw [e2] at u47
      simp [xf8, hl, h0, h1, h2, hA, u45, u45', s1, s2, f1, f2, u20, u20', u46, u47, u48, u49, u49', d1, d2, d3, k1, k2, k3, k4, fr1, fs1, fr2, fs2, set3, fillR, xload, AVal.cells, AVal.one, Store.empty, Store.new, Store.put, Store.get, look, putL, setR, Store.only, Store.merge, touch, wrote, upTo, isIn, okRec, hits, capsOf, xcaps, stripL, AVal.strip, freeL, AVal.free, fillR, chunks, mkV, List.filter]
  · simp only [d1, d2, if_true, if_false] at e1 e2
    have u46 := w46bad hX (s := s) (r := r) hv' (by omega) (by omega)
    rw [e1] at u46
    have u47 := k6 (by omega)
    rw [e2] at u47
    simp [xf8, hl, h0, h1, h2, hA, u45, u45', s1, s2, f1, f2, u20, u20', u46, u47, u48, u49, u49', d1, d2, k1, k2, k3, k4, fr1, fs1, fr2, fs2, set3, fillR, xload, AVal.cells, AVal.one, Store.empty, Store.new, Store.put, Store.get, look, putL, setR, Store.only, Store.merge, touch, wrote, upTo, isIn, okRec, hits, capsOf, xcaps, stripL, AVal.strip, freeL, AVal.free, fillR, chunks, mkV, List.filter]
end
end Go.Proofs.Ytgijgcmcpgepaaa.Eng

/-
  DISPATCH: the law of sums: its loops.
-/
namespace Go.Proofs.Ytgijgcmcpgepaaa.Eng
set_option linter.unusedSimpArgs false
set_option linter.unusedVariables false
def cells2 (s r : Int) : List AVal := [.int .i64 s, .int .i64 r]
/-- What lies in memory behind the calls. -/
def M9 (s r : Int) (L M : List Int) (σ : Store) : Prop := σ.get 0 = some (.cells (cells2 s r)) ∧ σ.get 1 = some (.cells (set3 (eS L M L.length) (mS L M L.length) (oS L M L.length))) ∧ σ.get 4 = some (.cells (set3 (zS L L.length) 0 0)) ∧ ∃ N, σ.next = N + 5
def I9 (s r : Int) (L M : List Int) (v w q : AVal) (k : Nat) (tm : List AVal) (σ : Store) : Prop :=
  tm.length = 318 ∧ XOpd.eval tm (.t 1) = v ∧ XOpd.eval tm (.t 2) = w ∧ XOpd.eval tm (.t 3) = .ptr 0 0 ∧ XOpd.eval tm (.t 7) = .ptr 1 0 ∧ XOpd.eval tm (.t 16) = .ptr 4 0 ∧ XOpd.eval tm (.t 14) = q ∧ XOpd.eval tm (.t 18) = .int .i64 (zS L k) ∧ XOpd.eval tm (.t 19) = .int .i64 (zS M k) ∧ XOpd.eval tm (.t 20) = .int .i64 (fS s r L k) ∧ XOpd.eval tm (.t 21) = .int .i64 k ∧ M9 s r L M σ
section
variable {X : FuncId → Option XFunc} (hX : DxACode X)
include hX
set_option maxHeartbeats 8000000 in
theorem round9 {s r : Int} {L M : List Int} {v w q : AVal} (hv : IntV L v) (hw : IntV M w) (hq : IntV (folL s r L L.length) q) (h : SIn L M) (hf : FIn s r L) (k : Nat) (hk : k < L.length) (tm : List AVal) (σ : Store) (hI : I9 s r L M v w q k tm σ) : Ends (Run X (.code xf9l0) tm σ) .normal (I9 s r L M v w q (k + 1)) := by
  obtain ⟨hl, h1, h2, h3, h7, h16, h14, h18, h19, h20, h21, g0, g1, g4, N, hN⟩ := hI
  have hn := h.n
  have hll := h.l
  have hk2 : k < M.length := by omega
  have hkw : IntKind.i64.wrap ((k : Int) + 1) = ((k + 1 : Nat) : Int) := by rw [wrap_i64] <;> omega
  have hvv : v = .list 1 (ints L) none := hv.ne (by intro e; simp [e] at hk)
  have hww : w = .list 1 (ints M) none := hw.ne (by intro e; simp [e] at hk2)
  have hqq : q = .list 1 (ints (folL s r L L.length)) none := hq.ne (by intro e; have := folL_len s r L L.length; rw [e] at this; simp at this; omega)
  subst hvv; subst hww; subst hqq
  have d1 : L.getD k 0 = L[k] := by simp [hk]
  have d2 : M.getD k 0 = M[k] := by simp [hk2]
  have a1 := h.w k
  have a2 := h.m k
  have s1 := sz_le a1
  have s2 := sz_le a2
  have z1 := zS_in h.w k
  have z2 := zS_in h.m k
  have p1 := hf.at k
  have p2 := hf.at (k + 1)
  have r0 := hf.r0
  have r1 := hf.r1
  have near := nx_near r0 (fS s r L k) (L.getD k 0)
  have eF : fS s r L (k + 1) = nxP r (fS s r L k) (L.getD k 0) := rfl
  rw [← eF] at near
  unfold I9 M9
  rw [zS_succ, zS_succ]
  rw [d1, d2] at *
  have gx : ∀ h, (ints L)[k]'h = .int .i64 L[k] := fun h => by simp [ints]
  have gy : ∀ h, (ints M)[k]'h = .int .i64 M[k] := fun h => by simp [ints]
  have gq : ∀ h, (ints (folL s r L L.length))[k]'h = .int .i64 (fS s r L (k + 1)) := fun h => by
    have := folL_get s r L hk
    have hk3 : k < (folL s r L L.length).length := by rw [folL_len]; exact hk
    have e : (folL s r L L.length)[k] = fS s r L (k + 1) := by simpa [hk3] using this
    simp [ints, e]
  have lx := ints_len L
  have ly := ints_len M
  have lq := ints_len (folL s r L L.length)
  rw [folL_len] at lq
  have u52 := fun σ => w52 hX (a := L[k]) (wrp (by omega) (by omega)) σ
  have u52' := fun σ => w52 hX (a := M[k]) (wrp (by omega) (by omega)) σ
  have u52n := fun σ => w52 hX (a := fS s r L (k + 1) - fS s r L k) (wrp (by omega) (by omega)) σ
  have u33 := w33 hX
  have hwin : win (fS s r L (k + 1)) (fS s r L k - r) (fS s r L k + r) = true := win_iff.2 ⟨near.1, near.2.1⟩
  have w1 : IntKind.i64.wrap (zS L k + sz L[k]) = zS L k + sz L[k] := wrp (by omega) (by omega)
  have w2 : IntKind.i64.wrap (zS M k + sz M[k]) = zS M k + sz M[k] := wrp (by omega) (by omega)
  have w3 : IntKind.i64.wrap (fS s r L k - r) = fS s r L k - r := wrp (by omega) (by omega)
  have w4 : IntKind.i64.wrap (fS s r L k + r) = fS s r L k + r := wrp (by omega) (by omega)
  have w5 : IntKind.i64.wrap (fS s r L (k + 1) - fS s r L k) = fS s r L (k + 1) - fS s r L k := wrp (by omega) (by omega)
  generalize set3 (eS L M L.length) (mS L M L.length) (oS L M L.length) = C1 at *
  generalize set3 (zS L L.length) 0 0 = C4 at *
  generalize ints (folL s r L L.length) = Q at *
  generalize ints L = A at *
  generalize ints M = B at *
  generalize fS s r L (k + 1) = f1 at *
  generalize fS s r L k = f0 at *
  generalize zS L k = zl at *
  generalize zS M k = zm at *
  have i1 : k < A.length := by omega
  have i2 : k < B.length := by omega
  have i3 : k < Q.length := by omega
  have i0 : (k : Int) < L.length := by omega
  unfold cells2 at *
  by_cases e : f1 = L[k]
  · rw [e] at hwin
    simp [xf9l0, hl, h1, h2, h3, h7, h16, h14, h18, h19, h20, h21, g0, g1, g4, hN, hk, hk2, i0, i1, i2, i3, lx, ly, lq, gx, gy, gq, hkw, u52, u52', u33, hwin, w1, w2, w3, w4, e, xload, xlen, AVal.cells, AVal.one, put_next, new_next, Store.get_new, Store.get_put, put_get, setR, only_get, merge_get', only_next, merge_next, upTo_self, upTo_one, merge_only, touch, wrote, isIn, okRec, hits, capsOf, xcaps, stripL, AVal.strip, freeL, AVal.free, fillR, chunks, mkV]
  · have e2 := near.2.2.resolve_left e
    simp [xf9l0, hl, h1, h2, h3, h7, h16, h14, h18, h19, h20, h21, g0, g1, g4, hN, hk, hk2, i0, i1, i2, i3, lx, ly, lq, gx, gy, gq, hkw, u52, u52', u52n, u33, hwin, w1, w2, w3, w4, w5, e, e2, xload, xlen, AVal.cells, AVal.one, put_next, new_next, Store.get_new, Store.get_put, put_get, setR, only_get, merge_get', only_next, merge_next, upTo_self, upTo_one, merge_only, touch, wrote, isIn, okRec, hits, capsOf, xcaps, stripL, AVal.strip, freeL, AVal.free, fillR, chunks, mkV]
theorem loop9 {s r : Int} {L M : List Int} {v w q : AVal} (hv : IntV L v) (hw : IntV M w) (hq : IntV (folL s r L L.length) q) (h : SIn L M) (hf : FIn s r L) (tm : List AVal) (σ : Store) (hI : I9 s r L M v w q 0 tm σ) : Ends (Run X (.code (.loop xf9l0)) tm σ) (.exit 0) (I9 s r L M v w q L.length) := by
  refine loop_all L.length (I9 s r L M v w q) (by simp) (fun i tm σ hi h' => round9 hX hv hw hq h hf i hi tm σ h') (fun tm σ h' => ?_) tm σ hI
  obtain ⟨hl, h1, h2, h3, h7, h16, h14, h18, h19, h20, h21, hm⟩ := h'
  obtain ⟨k1, k2⟩ := hv.len
  unfold I9
  simp [xf9l0, hl, h1, h2, h3, h7, h16, h14, h18, h19, h20, h21, k1, k2]
  exact hm
/-! A constant power. -/
omit hX in
def J9 (c : Int) (s r : Int) (v : AVal) (k : Nat) (tm : List AVal) (σ : Store) : Prop :=
  tm.length = 318 ∧ XOpd.eval tm (.t 1) = v ∧ XOpd.eval tm (.t 3) = .ptr 0 0 ∧ XOpd.eval tm (.t 23) = .int .i64 k ∧ σ.get 0 = some (.cells (cells2 s r)) ∧ 1 ≤ σ.next ∧ OutG 3 1 σ 1 (ints (List.replicate k c)) (XOpd.eval tm (.t 22))
omit hX in
theorem jround9 {c s r : Int} {L : List Int} {v : AVal} (hv : IntV L v) (h0 : 0 < L.length) (hc : L.getD 0 0 = c) (k : Nat) (hk : k < 80) (tm : List AVal) (σ : Store) (hI : J9 c s r v k tm σ) : Ends (Run X (.code xf9l1) tm σ) .normal (J9 c s r v (k + 1)) := by
  obtain ⟨hl, h1, h3, h23, g0, nx, ho⟩ := hI
  have hkw : IntKind.i64.wrap ((k : Int) + 1) = ((k + 1 : Nat) : Int) := by rw [wrap_i64] <;> omega
  have hvv : v = .list 1 (ints L) none := hv.ne (by intro e; simp [e] at h0)
  subst hvv
  have d1 : L[0] = c := by rw [← hc]; simp [h0]
  have gx : ∀ h, (ints L)[0]'h = .int .i64 c := fun h => by simp [ints, d1]
  have lx := ints_len L
  have eF : ints (List.replicate (k + 1) c) = ints (List.replicate k c) ++ [.int .i64 c] := by rw [List.replicate_succ', ints_app]
  unfold J9
  rw [eF]
  have hpl := ints_len (List.replicate k c)
  rw [List.length_replicate] at hpl
  generalize ints (List.replicate k c) = P at *
  generalize ints L = A at *
  generalize hvo : XOpd.eval tm (.t 22) = vo at *
  obtain ⟨v', σ', a1, a2, a3, a4⟩ := out_append (bytes := 8) (ho.tok (.tok 3 1 1)) (by rw [new_next]; omega) (x := .int .i64 c) rfl (by decide) (by omega) (by omega) (some σ.next)
  have i1 : 0 < A.length := by omega
  have e : Ends (Run X (.code xf9l1) tm σ) .normal fun tm' σ'' => tm'.length = 318 ∧ XOpd.eval tm' (.t 1) = .list 1 A none ∧ XOpd.eval tm' (.t 3) = .ptr 0 0 ∧ XOpd.eval tm' (.t 23) = .int .i64 ((k + 1 : Nat) : Int) ∧ XOpd.eval tm' (.t 22) = v' ∧ σ'' = σ' := by
    have hk' : (k : Int) < 80 := by omega
    simp [xf9l1, hl, h1, h3, h23, hvo, hk', i1, gx, hkw, a1, xload, AVal.cells, put_next, new_next, Store.get_new, Store.get_put, put_get, setR, only_get, merge_get', only_next, merge_next, upTo_self, upTo_one, merge_only, touch, wrote, isIn, okRec, hits, capsOf, xcaps, stripL, AVal.strip, freeL, AVal.free, fillR, chunks, mkV]
  obtain ⟨o1, p1, p2, p3, p4, p5, p6⟩ := out_of e
  refine ⟨_, _, o1, p1, p2, p3, p4, ?_, ?_, by rw [p5, p6]; exact a2⟩
  · rw [p6, a3 0 (by omega), Store.get_new, put_get, if_neg (by omega)]; exact g0
  · rw [p6]; rw [new_next] at a4; omega
omit hX in
theorem jloop9 {c s r : Int} {L : List Int} {v : AVal} (hv : IntV L v) (h0 : 0 < L.length) (hc : L.getD 0 0 = c) (tm : List AVal) (σ : Store) (hI : J9 c s r v 0 tm σ) : Ends (Run X (.code (.loop xf9l1)) tm σ) (.exit 2) (J9 c s r v 80) := by
  refine loop_all 80 (J9 c s r v) (by simp) (fun i tm σ hi h' => jround9 hv h0 hc i hi tm σ h') (fun tm σ h' => ?_) tm σ hI
  obtain ⟨hl, h1, h3, h23, hm⟩ := h'
  unfold J9
  simp [xf9l1, hl, h1, h3, h23]
  exact hm
end
end Go.Proofs.Ytgijgcmcpgepaaa.Eng

/-
  DISPATCH: the law of sums.
-/
namespace Go.Proofs.Ytgijgcmcpgepaaa.Eng
set_option linter.unusedSimpArgs false
set_option linter.unusedVariables false
theorem cw_of {lo hi : Int} : ∀ {L : List Int}, (∀ x, x ∈ L → lo ≤ x ∧ x ≤ hi) → cw lo hi L = 0
  | [], _ => rfl
  | a :: L, h => by
    unfold cw
    rw [if_pos (win_iff.2 (h a (by simp)))]
    exact cw_of fun x hx => h x (by simp [hx])
theorem pw_sub {L K : List Int} (h : pwE L = 0) (hs : ∀ x, x ∈ K → x ∈ L) (hn : K.length ≤ 300) : pwE K = 0 := by
  unfold pwE at h ⊢
  split at h
  · rw [if_pos hn]
    exact cw_of fun x hx => cw_in h x (hs x hx)
  · omega
theorem stE_of {L M : List Int} (h1 : pwE L = 0) (h2 : pwE M = 0) (h3 : L.length = M.length) : stE L M = 0 := by
  unfold stE
  simp [firstNZ, h1, h2, h3]
section
variable {X : FuncId → Option XFunc} (hX : DxACode X)
include hX
set_option maxHeartbeats 8000000 in
theorem prefix9 (hA : ∀ σ, Run X (.call 12) [] σ = some (.ret, [.bool true], σ)) {s r : Int} {L M : List Int} {v w : AVal} (hv : IntV L v) (hw : IntV M w) (c1 : L.length ≤ 80) (c2 : L.length = M.length) (c3 : pwE L = 0) (c4 : pwE M = 0) (c5 : rmE s r = 0) (tm : List AVal) (hl : tm.length = 318) (h0 : XOpd.eval tm (.t 0) = .agg [.int .i64 s, .int .i64 r]) (h1 : XOpd.eval tm (.t 1) = v) (h2 : XOpd.eval tm (.t 2) = w) :
    ∃ q, IntV (folL s r L L.length) q ∧ Ends (Run X (.code (XCode.cutP 13 xf9.body)) tm Store.empty) .normal (I9 s r L M v w q 0) := by
  have hin : SIn L M := stE_ok (stE_of c3 c4 c2)
  have hf : FIn s r L := fin_of c5 c3
  have e46 : foE s r L = 0 := by rw [foE_eq, if_pos c5]; exact c3
  obtain ⟨n, hn⟩ : ∃ n, n = L.length := ⟨_, rfl⟩
  obtain ⟨h, hh⟩ : ∃ h, h = n / 2 := ⟨_, rfl⟩
  have hhn : h ≤ n := by omega
  have u20 := fun (K : List Int) (x : AVal) (hx : IntV K x) (hk : K.length ≤ 80) => w20 hX hx (by omega)
  have a1 := fun σ => u20 L v hv c1 σ
  have a2 := fun σ => u20 M w hw (by omega) σ
  have a3 := fun σ => u20 (L.take h) _ (IntV.list _) (by simp; omega) σ
  have a4 := fun σ => u20 (M.take h) _ (IntV.list _) (by simp; omega) σ
  have a5 := fun σ => u20 (L.drop h) _ (IntV.list _) (by simp; omega) σ
  have a6 := fun σ => u20 (M.drop h) _ (IntV.list _) (by simp; omega) σ
  have a7 := fun σ => u20 [] .nils (.inr ⟨rfl, rfl⟩) (by simp) σ
  have b1 := w47 hX (IntV.list L) (IntV.list M) (stE_of c3 c4 c2)
  have b2 := w47 hX (IntV.list (L.take h)) (IntV.list (M.take h)) (stE_of (pw_sub c3 (fun x => List.mem_of_mem_take) (by simp; omega)) (pw_sub c4 (fun x => List.mem_of_mem_take) (by simp; omega)) (by simp [c2]))
  have b3 := w47 hX (IntV.list (L.drop h)) (IntV.list (M.drop h)) (stE_of (pw_sub c3 (fun x => List.mem_of_mem_drop) (by simp; omega)) (pw_sub c4 (fun x => List.mem_of_mem_drop) (by simp; omega)) (by simp [c2]))
  have b4 := w47 hX (IntV.list L) (IntV.list L) (stE_of c3 c3 rfl)
  have t1 := eS_take L M h h (Nat.le_refl _)
  have t2 := eS_split L M h (n - h)
  have t3 := self_z L L.length
  have l1 : (L.take h).length = h := by simp; omega
  have l2 : (L.drop h).length = n - h := by simp; omega
  have l3 : h + (n - h) = L.length := by omega
  rw [l1] at b2
  rw [l2] at b3
  rw [l3] at t2
  rw [t1.1, t1.2.1, t1.2.2] at b2
  rw [t3.1, t3.2.1, t3.2.2] at b4
  obtain ⟨q, hq, b5⟩ := w46 hX (IntV.list L) e46
  refine ⟨q, hq, ?_⟩
  have z1 := eS_in (M := M) hin.w h
  have z2 := mS_in (M := M) hin.w h
  have z3 := oS_in (W := L) hin.m h
  have hwd : ∀ i, -1000000 ≤ (L.drop h).getD i 0 ∧ (L.drop h).getD i 0 ≤ 1000000 := fun i => by rw [getD_drop]; exact hin.w _
  have hmd : ∀ i, -1000000 ≤ (M.drop h).getD i 0 ∧ (M.drop h).getD i 0 ≤ 1000000 := fun i => by rw [getD_drop]; exact hin.m _
  have y1 := eS_in (M := M.drop h) hwd (n - h)
  have y2 := mS_in (M := M.drop h) hwd (n - h)
  have y3 := oS_in (W := L.drop h) hmd (n - h)
  have u48 := w48 hX s r
  have u49 := w49 hX hv (by omega)
  have u49' := w49 hX hw (by omega)
  rw [c5] at u48
  rw [c3] at u49
  rw [c4] at u49'
  have et1 : (ints L).take h = ints (L.take h) := by simp [ints]
  have et2 : (ints M).take h = ints (M.take h) := by simp [ints]
  have ed1 : (ints L).drop h = ints (L.drop h) := by simp [ints]
  have ed2 : (ints M).drop h = ints (M.drop h) := by simp [ints]
  have lx := ints_len L
  have ly := ints_len M
  have i1 : h ≤ (ints L).length := by omega
  have i2 : h ≤ (ints M).length := by omega
  have i3 : h ≤ M.length := by omega
  have i4 : h ≤ L.length := by omega
  obtain ⟨lq1, lq2⟩ := hq.len
  rw [folL_len] at lq1
  have d1 : ((L.length : Int)).tdiv 2 = (h : Int) := by rw [hh, hn]; rfl
  have d2 : IntKind.i64.wrap (h : Int) = h := wrp (by omega) (by omega)
  have n1 : ¬ (80 : Int) < L.length := by omega
  have n2 : (L.length : Int) = M.length := by omega
  have s1 : IntKind.i64.wrap (eS L M h + eS (L.drop h) (M.drop h) (n - h)) = eS L M L.length := by rw [t2.1]; exact wrp (by omega) (by omega)
  have s2 : IntKind.i64.wrap (mS L M h + mS (L.drop h) (M.drop h) (n - h)) = mS L M L.length := by rw [t2.2.1]; exact wrp (by omega) (by omega)
  have s3 : IntKind.i64.wrap (oS L M h + oS (L.drop h) (M.drop h) (n - h)) = oS L M L.length := by rw [t2.2.2]; exact wrp (by omega) (by omega)
  have p1 : ¬ eS L M L.length < 0 := by omega
  have p2 : ¬ mS L M L.length < 0 := by omega
  have p3 : ¬ oS L M L.length < 0 := by omega
  have f1 := hv.free
  have f2 := hw.free
  have f3 := hq.free
  have fr := fun K => ints_fr K
  have fs := fun K => freeL_strip (ints_fr K)
  obtain ⟨k1, k2⟩ := hv.len
  obtain ⟨k3, k4⟩ := hw.len
  generalize eS (L.drop h) (M.drop h) (n - h) = E2 at *
  generalize mS (L.drop h) (M.drop h) (n - h) = M2 at *
  generalize oS (L.drop h) (M.drop h) (n - h) = O2 at *
  generalize eS L M h = E1 at *
  generalize mS L M h = M1 at *
  generalize oS L M h = O1 at *
  have hM : M.length = L.length := c2.symm
  have n3 : ¬ 80 < L.length := by omega
  clear n2 c2 lq1
  rw [hM] at ly i3 k3
  have lq1 := hq.len.1
  rw [folL_len] at lq1
  have et3 : (ints L).take L.length = ints L := by rw [← ints_len L]; exact List.take_length
  have et4 : (ints M).take L.length = ints M := by rw [← hM, ← ints_len M]; exact List.take_length
  generalize hL : L.length = n' at *
  have w0 : IntKind.i64.wrap 0 = 0 := by decide
  unfold I9 M9
  rcases hv with rfl | ⟨rfl, rfl⟩
  · rcases hw with rfl | ⟨rfl, rfl⟩
    · simp [xf9, XCode.cutP, hl, h0, h1, h2, hA, a1, a2, a3, a4, a5, a6, b1, b2, b3, b4, b5, u48, u49, u49', et1, et2, et3, et4, ed1, ed2, lx, ly, i1, i2, i3, i4, d1, d2, n1, n3, hL, hM, s1, s2, s3, p1, p2, p3, f3, fr, fs, lq1, lq2, set3, cells2, zS, fS, fillR, xload, AVal.cells, AVal.one, Store.empty, Store.new, Store.put, Store.get, look, putL, setR, Store.only, Store.merge, touch, wrote, upTo, isIn, okRec, hits, capsOf, xcaps, stripL, AVal.strip, freeL, AVal.free, fillR, chunks, mkV, List.filter]
    · obtain rfl : 0 = n' := by simpa using hM
      obtain rfl := List.eq_nil_of_length_eq_zero hL
      subst hn
      obtain rfl : h = 0 := by omega
      simp only [ints, List.map_nil, List.take_nil, List.drop_nil] at *
      · simp [xf9, XCode.cutP, hl, h0, h1, h2, hA, w0, a1, a2, a3, a4, a5, a6, a7, b1, b2, b3, b4, b5, u48, u49, u49', n1, n3, s1, s2, s3, p1, p2, p3, f3, fr, fs, lq1, lq2, set3, cells2, zS, fS, fillR, ints, eS, mS, oS, xload, AVal.cells, AVal.one, Store.empty, Store.new, Store.put, Store.get, look, putL, setR, Store.only, Store.merge, touch, wrote, upTo, isIn, okRec, hits, capsOf, xcaps, stripL, AVal.strip, freeL, AVal.free, fillR, chunks, mkV, List.filter]
  · obtain rfl : 0 = n' := by simpa using hL
    subst hn
    obtain rfl : h = 0 := by omega
    rcases hw with rfl | ⟨rfl, rfl⟩
    · obtain rfl := List.eq_nil_of_length_eq_zero hM
      simp only [ints, List.map_nil, List.take_nil, List.drop_nil] at *
      · simp [xf9, XCode.cutP, hl, h0, h1, h2, hA, w0, a1, a2, a3, a4, a5, a6, a7, b1, b2, b3, b4, b5, u48, u49, u49', n1, n3, s1, s2, s3, p1, p2, p3, f3, fr, fs, lq1, lq2, set3, cells2, zS, fS, fillR, ints, eS, mS, oS, xload, AVal.cells, AVal.one, Store.empty, Store.new, Store.put, Store.get, look, putL, setR, Store.only, Store.merge, touch, wrote, upTo, isIn, okRec, hits, capsOf, xcaps, stripL, AVal.strip, freeL, AVal.free, fillR, chunks, mkV, List.filter]
    · simp only [ints, List.map_nil, List.take_nil, List.drop_nil] at *
      · simp [xf9, XCode.cutP, hl, h0, h1, h2, hA, w0, a1, a2, a3, a4, a5, a6, a7, b1, b2, b3, b4, b5, u48, u49, u49', n1, n3, s1, s2, s3, p1, p2, p3, f3, fr, fs, lq1, lq2, set3, cells2, zS, fS, fillR, ints, eS, mS, oS, xload, AVal.cells, AVal.one, Store.empty, Store.new, Store.put, Store.get, look, putL, setR, Store.only, Store.merge, touch, wrote, upTo, isIn, okRec, hits, capsOf, xcaps, stripL, AVal.strip, freeL, AVal.free, fillR, chunks, mkV, List.filter]
end
end Go.Proofs.Ytgijgcmcpgepaaa.Eng

/-
  DISPATCH: the law of sums, whole.
-/
namespace Go.Proofs.Ytgijgcmcpgepaaa.Eng
set_option linter.unusedSimpArgs false
set_option linter.unusedVariables false
section
variable {X : FuncId → Option XFunc} (hX : DxACode X)
include hX
set_option maxHeartbeats 8000000 in
theorem end9 {s r : Int} {L M : List Int} {v w q : AVal} (hv : IntV L v) (h : SIn L M) (hf : FIn s r L) (tm : List AVal) (σ : Store) (hI : I9 s r L M v w q L.length tm σ) : givesR xf9.results (.bool true) (Run X (.code (XCode.cutR 13 xf9.body)) tm σ) := by
  obtain ⟨hl, h1, h2, h3, h7, h16, h14, h18, h19, h20, h21, g0, g1, g4, N, hN⟩ := hI
  obtain ⟨k1, k2⟩ := hv.len
  have z1 := em_z L M L.length
  have z2 := eo_z L M L.length
  have y1 := eS_in (M := M) h.w L.length
  have y2 := mS_in (M := M) h.w L.length
  have y3 := oS_in (W := L) h.m L.length
  have hn := h.n
  have w1 : IntKind.i64.wrap (eS L M L.length + mS L M L.length) = zS L L.length := by rw [← z1]; exact wrp (by omega) (by omega)
  have w2 : IntKind.i64.wrap (eS L M L.length + oS L M L.length) = zS M L.length := by rw [← z2]; exact wrp (by omega) (by omega)
  generalize zS L L.length = zl at *
  generalize zS M L.length = zm at *
  generalize eS L M L.length = ee at *
  generalize mS L M L.length = mm at *
  generalize oS L M L.length = oo at *
  unfold set3 cells2 at *
  by_cases c1 : r = 0
  · subst c1
    simp [xf9, XCode.cutR, hl, h1, h3, h7, h16, h18, h19, g0, g1, g4, hN, w1, w2, fillR, xload, AVal.cells, AVal.one, put_next, new_next, Store.get_new, Store.get_put, put_get, setR, only_get, merge_get', only_next, merge_next, upTo_self, upTo_one, merge_only, touch, wrote, isIn, okRec, hits, capsOf, xcaps, stripL, AVal.strip, freeL, AVal.free, fillR, chunks, mkV]
  by_cases c2 : L.length = 0
  · have c2' : (L.length : Int) = 0 := by omega
    simp [xf9, XCode.cutR, hl, h1, h3, h7, h16, h18, h19, g0, g1, g4, hN, w1, w2, c1, c2', k1, k2, fillR, xload, AVal.cells, AVal.one, put_next, new_next, Store.get_new, Store.get_put, put_get, setR, only_get, merge_get', only_next, merge_next, upTo_self, upTo_one, merge_only, touch, wrote, isIn, okRec, hits, capsOf, xcaps, stripL, AVal.strip, freeL, AVal.free, fillR, chunks, mkV]
  have c2' : ¬ (L.length : Int) = 0 := by omega
  have c3 : 0 < L.length := by omega
  have c2'' : ¬ L = [] := by intro e; simp [e] at c3
  obtain ⟨c, hc⟩ : ∃ c, L.getD 0 0 = c := ⟨_, rfl⟩
  have eP : Ends (Run X (.code (XCode.cutP 3 (XCode.cutR 13 xf9.body))) tm σ) .normal (J9 c s r v 0) := by
    unfold J9
    simp [xf9, XCode.cutP, XCode.cutR, hl, h1, h3, h7, h16, h18, h19, g0, g1, g4, hN, w1, w2, c1, c2', c2'', k1, k2, cells2, fillR, xload, AVal.cells, AVal.one, put_next, new_next, Store.get_new, Store.get_put, put_get, setR, only_get, merge_get', only_next, merge_next, upTo_self, upTo_one, merge_only, touch, wrote, isIn, okRec, hits, capsOf, xcaps, stripL, AVal.strip, freeL, AVal.free, fillR, chunks, mkV]
    exact .inl ⟨rfl, rfl⟩
  obtain ⟨o1, o2⟩ := out_of eP
  obtain ⟨q1, q2, q3, q4, q5, q6, q7, q8⟩ := out_of (jloop9 (X := X) hv c3 hc _ _ o2)
  rw [Run_cut 3, o1, thenC_normal, show XCode.cutB 3 (XCode.cutR 13 xf9.body) = .block 2 (.loop xf9l1) from rfl, Run_block, q1, blockC_exit]
  generalize outT X (.loop xf9l1) _ _ = tm3 at *
  generalize outS X (.loop xf9l1) _ _ = σ3 at *
  clear o1 o2 eP
  obtain ⟨K, hK⟩ : ∃ K, K = List.replicate 80 c := ⟨_, rfl⟩
  rw [← hK] at q8
  have hKl : K.length = 80 := by rw [hK, List.length_replicate]
  have hKg : ∀ i, i < 80 → K.getD i 0 = c := fun i hi => by rw [hK, List.getD_eq_getElem?_getD, List.getElem?_replicate, if_pos hi]; rfl
  have hcb := h.w 0
  rw [hc] at hcb
  have hKp : pwE K = 0 := by
    unfold pwE
    rw [if_pos (by omega)]
    exact cw_of fun x hx => by
      rw [hK] at hx
      have := List.eq_of_mem_replicate hx
      omega
  clear hK
  have hrm : rmE s r = 0 := by
    unfold rmE
    rw [if_pos (by simp only [Bool.and_eq_true, win_iff]; exact ⟨⟨hf.s0, hf.s1⟩, hf.r0, hf.r1⟩)]
  have e46 : foE s r K = 0 := by rw [foE_eq, if_pos hrm]; exact hKp
  obtain ⟨j1, j2⟩ := q8.ints
  generalize hv22 : XOpd.eval tm3 (.t 22) = v22 at j1 j2
  have hJ : IntV K v22.strip := j1
  obtain ⟨p, hp, u46⟩ := w46 hX (s := s) (r := r) hJ e46
  have u46' : ∀ σ, Run X (.call 46) [.int .i64 s, .int .i64 r, v22] σ = some (.ret, [.tup [p, .int .i64 0]], σ) := fun σ => by
    rw [call_stripped (by simp [stripL, AVal.strip, freeL, AVal.free, j2])]
    simp only [stripL, AVal.strip]
    exact u46 σ
  rw [hKl] at hp
  have hpp : p = .list 1 (ints (folL s r K 80)) none := hp.ne (by intro e; have := folL_len s r K 80; rw [e] at this; simp at this)
  subst hpp
  have lp := ints_len (folL s r K 80)
  rw [folL_len] at lp
  have g79 : ∀ h, (ints (folL s r K 80))[79]'h = .int .i64 (fS s r K 80) := fun h => by
    have e := folL_get s r K (n := 80) (i := 79) (by omega)
    have hk3 : 79 < (folL s r K 80).length := by rw [folL_len]; omega
    have e' : (folL s r K 80)[79] = fS s r K 80 := by simpa [hk3] using e
    simp [ints, e']
  have fr := ints_fr (folL s r K 80)
  have fs := freeL_strip fr
  have rest := fS_rest (s := s) (r := r) (w := c) hf.r0 hKg 80 (Nat.le_refl _)
  have hvv : v = .list 1 (ints L) none := hv.ne (by intro e; simp [e] at c3)
  subst hvv
  have gL : ∀ h, (ints L)[0]'h = .int .i64 c := fun h => by
    have : L[0] = c := by rw [← hc]; simp [c3]
    simp [ints, this]
  have lL := ints_len L
  have s0 := hf.s0
  have s1 := hf.s1
  have r0 := hf.r0
  have r1 := hf.r1
  have w3 : IntKind.i64.wrap (80 * r) = 80 * r := wrp (by omega) (by omega)
  have w4 : IntKind.i64.wrap (c - s) = c - s := wrp (by omega) (by omega)
  have u52 := fun σ => w52 hX (a := c - s) (wrp (by omega) (by omega)) σ
  generalize fS s r K 80 = last at *
  generalize ints (folL s r K 80) = Q at *
  generalize ints L = A at *
  have i1 : 79 < Q.length := by omega
  have i79 : idx (.int .i64 79) = some 79 := rfl
  have i2 : 0 < A.length := by omega
  unfold cells2 at q6
  by_cases c4 : 80 * r < sz (c - s)
  · simp [xf9, XCode.cutR, q2, q3, q4, q6, hv22, u46', u52, w3, w4, c4, lp, lL, c3, i1, i2, gL, g79, i79, fr, fs, xload, xlen, AVal.cells, AVal.one, put_next, new_next, Store.get_new, Store.get_put, put_get, setR, only_get, merge_get', only_next, merge_next, upTo_self, upTo_one, merge_only, touch, wrote, isIn, okRec, hits, capsOf, xcaps, stripL, AVal.strip, freeL, AVal.free, fillR, chunks, mkV]
  · have c5 : last = c := by
      rcases rest with e | e
      · exact e
      · have := sz_pos (c - last)
        omega
    subst c5
    simp [xf9, XCode.cutR, q2, q3, q4, q6, hv22, u46', u52, w3, w4, c4, lp, lL, c3, i1, i2, gL, g79, i79, fr, fs, xload, xlen, AVal.cells, AVal.one, put_next, new_next, Store.get_new, Store.get_put, put_get, setR, only_get, merge_get', only_next, merge_next, upTo_self, upTo_one, merge_only, touch, wrote, isIn, okRec, hits, capsOf, xcaps, stripL, AVal.strip, freeL, AVal.free, fillR, chunks, mkV]
set_option maxHeartbeats 8000000 in
theorem w9 (hA : ∀ σ, Run X (.call 12) [] σ = some (.ret, [.bool true], σ)) (s r : Int) {L M : List Int} {v w : AVal} (hv : IntV L v) (hw : IntV M w) (σ : Store) : Run X (.call 9) [.agg [.int .i64 s, .int .i64 r], v, w] σ = some (.ret, [.bool true], σ) := by
  refine call3 (a := .agg [.int .i64 s, .int .i64 r]) (b := v) (c := w) (v := .bool true) hX.h9 rfl (by rw [hv.free.2]; exact hv.free.1) (by rw [hw.free.2]; exact hw.free.1) (by decide) (fun tm hl h0 h1 h2 => ?_) rfl σ
  rw [hv.free.2] at h1
  rw [hw.free.2] at h2
  simp only [AVal.strip, stripL] at h0
  replace hl : tm.length = 318 := hl
  have f1 := hv.free
  have f2 := hw.free
  obtain ⟨k1, k2⟩ := hv.len
  obtain ⟨k3, k4⟩ := hw.len
  by_cases c1 : L.length ≤ 80
  · by_cases c2 : L.length = M.length
    · have u48 := w48 hX s r
      have u49 := w49 hX hv (by omega)
      have u49' := w49 hX hw (by omega)
      have n1 : ¬ (80 : Int) < L.length := by omega
      by_cases c3 : pwE L = 0
      · by_cases c4 : pwE M = 0
        · by_cases c5 : rmE s r = 0
          · obtain ⟨q, hq, e⟩ := prefix9 hX hA hv hw c1 c2 c3 c4 c5 tm hl h0 h1 h2
            have hin : SIn L M := stE_ok (stE_of c3 c4 c2)
            have hf : FIn s r L := fin_of c5 c3
            obtain ⟨o1, o2⟩ := out_of e
            obtain ⟨q1, q2⟩ := out_of (loop9 hX hv hw hq hin hf _ _ o2)
            have key := end9 hX hv hin hf _ _ q2
            unfold Gives
            rw [Run_cut 13, o1, thenC_normal, show XCode.cutB 13 xf9.body = .block 0 (.loop xf9l0) from rfl, Run_block, q1, blockC_exit]
            exact key
          · unfold Gives
            simp [xf9, hl, h0, h1, h2, hA, f1, f2, k1, k2, k3, k4, n1, ← c2, u48, u49, u49', c3, c4, c5, xload, AVal.cells, AVal.one, Store.empty, Store.new, Store.put, Store.get, look, putL, setR, Store.only, Store.merge, touch, wrote, upTo, isIn, okRec, hits, capsOf, xcaps, stripL, AVal.strip, freeL, AVal.free, fillR, chunks, mkV, List.filter]
        · unfold Gives
          simp [xf9, hl, h0, h1, h2, hA, f1, f2, k1, k2, k3, k4, n1, ← c2, u49, u49', c3, c4, xload, AVal.cells, AVal.one, Store.empty, Store.new, Store.put, Store.get, look, putL, setR, Store.only, Store.merge, touch, wrote, upTo, isIn, okRec, hits, capsOf, xcaps, stripL, AVal.strip, freeL, AVal.free, fillR, chunks, mkV, List.filter]
      · unfold Gives
        simp [xf9, hl, h0, h1, h2, hA, f1, f2, k1, k2, k3, k4, n1, ← c2, u49, c3, xload, AVal.cells, AVal.one, Store.empty, Store.new, Store.put, Store.get, look, putL, setR, Store.only, Store.merge, touch, wrote, upTo, isIn, okRec, hits, capsOf, xcaps, stripL, AVal.strip, freeL, AVal.free, fillR, chunks, mkV, List.filter]
    · have n1 : ¬ (80 : Int) < L.length := by omega
      have n2 : ¬ (M.length : Int) = L.length := by omega
      unfold Gives
      simp [xf9, hl, h0, h1, h2, hA, f1, f2, k1, k2, k3, k4, n1, n2, xload, AVal.cells, AVal.one, Store.empty, Store.new, Store.put, Store.get, look, putL, setR, Store.only, Store.merge, touch, wrote, upTo, isIn, okRec, hits, capsOf, xcaps, stripL, AVal.strip, freeL, AVal.free, fillR, chunks, mkV, List.filter]
  · have n1 : (80 : Int) < L.length := by omega
    unfold Gives
    simp [xf9, hl, h0, h1, h2, hA, f1, f2, k1, k2, k3, k4, n1, xload, AVal.cells, AVal.one, Store.empty, Store.new, Store.put, Store.get, look, putL, setR, Store.only, Store.merge, touch, wrote, upTo, isIn, okRec, hits, capsOf, xcaps, stripL, AVal.strip, freeL, AVal.free, fillR, chunks, mkV, List.filter]
end
end Go.Proofs.Ytgijgcmcpgepaaa.Eng
