/-
  DISPATCH: powers and settlements; mathematics.
-/
import Derived.Test.YtgijgcmcpgepaaaEngLoop
import Derived.Test.YtgijgcmcpgepaaaEng6
import Derived.Test.YtgijgcmcpgepaaaCode1
import Derived.Test.YtgijgcmcpgepaaaEng2
namespace Go.Proofs.Ytgijgcmcpgepaaa.Eng
set_option linter.unusedSimpArgs false
set_option linter.unusedVariables false
def win (a b c : Int) : Bool := decide (b ≤ a) && decide (a ≤ c)
theorem win_iff {a b c : Int} : win a b c = true ↔ b ≤ a ∧ a ≤ c := by simp [win]
theorem win_no {a b c : Int} (h : win a b c = false) : a < b ∨ c < a := by
  by_cases e1 : b ≤ a
  · simp [win, e1] at h; exact .inr h
  · exact .inl (by omega)
def firstNZ : List Int → Int
  | [] => 0
  | e :: l => if e = 0 then firstNZ l else e
def imax (a b : Int) : Int := if a < b then b else a
def imin (a b : Int) : Int := if b < a then b else a
theorem xmm_max (k k' : IntKind) (x y : Int) : xmm true (.int k x) (.int k' y) = some (.int k (imax x y)) := rfl
theorem xmm_min (k k' : IntKind) (x y : Int) : xmm false (.int k x) (.int k' y) = some (.int k (imin x y)) := rfl
def sz (n : Int) : Int := imax n (-n)
theorem sz_pos (n : Int) : 0 ≤ sz n ∧ n ≤ sz n ∧ -n ≤ sz n := by unfold sz imax; split <;> omega
theorem wrp {n : Int} (h1 : -1000000000000000000 ≤ n) (h2 : n ≤ 1000000000000000000) : IntKind.i64.wrap n = n := by rw [wrap_i64] <;> omega
/-! Lists of numbers. -/
theorem ints_get {L : List Int} {i : Nat} (hi : i < L.length) : (ints L)[i]? = some (.int .i64 L[i]) := by simp [ints, hi]
theorem ints_app (L : List Int) (x : Int) : ints (L ++ [x]) = ints L ++ [.int .i64 x] := by simp [ints]
def IntV (L : List Int) (v : AVal) : Prop := v = .list 1 (ints L) none ∨ (v = .nils ∧ L = [])
theorem IntV.free {L : List Int} {v : AVal} (h : IntV L v) : v.free = true ∧ v.strip = v := by
  rcases h with rfl | ⟨rfl, _⟩
  · have fr := ints_fr L
    exact ⟨by simp [AVal.free, fr], by simp [AVal.strip, freeL_strip fr]⟩
  · exact ⟨rfl, rfl⟩
theorem IntV.len {L : List Int} {v : AVal} (h : IntV L v) : xlen v = some (.int .i64 L.length) ∧ v.down = v := by
  rcases h with rfl | ⟨rfl, rfl⟩ <;> exact ⟨by simp [ints_len], rfl⟩
theorem IntV.ne {L : List Int} {v : AVal} (h : IntV L v) (hn : L ≠ []) : v = .list 1 (ints L) none := by
  rcases h with rfl | ⟨_, rfl⟩
  · rfl
  · exact absurd rfl hn
theorem IntV.list (L : List Int) : IntV L (.list 1 (ints L) none) := .inl rfl
/-- Numbers that must lie in a range. -/
def cw (lo hi : Int) : List Int → Int
  | [] => 0
  | n :: l => if win n lo hi then cw lo hi l else 2
theorem cw_in {lo hi : Int} : ∀ {L : List Int}, cw lo hi L = 0 → ∀ x, x ∈ L → lo ≤ x ∧ x ≤ hi
  | [], _, x, hx => by cases hx
  | a :: L, h, x, hx => by
    unfold cw at h
    split at h
    · rename_i c
      rcases List.mem_cons.1 hx with rfl | hx
      · exact win_iff.1 c
      · exact cw_in h x hx
    · omega
theorem cw_two {lo hi : Int} : ∀ (L : List Int), cw lo hi L = 0 ∨ cw lo hi L = 2
  | [] => .inl rfl
  | a :: L => by unfold cw; split; exact cw_two L; exact .inr rfl
theorem cw_at {lo hi : Int} {L : List Int} (h : cw lo hi L = 0) (l0 : lo ≤ 0) (h0 : 0 ≤ hi) (i : Nat) : lo ≤ L.getD i 0 ∧ L.getD i 0 ≤ hi := by
  by_cases hi' : i < L.length
  · have : L.getD i 0 = L[i] := by simp [hi']
    rw [this]
    exact cw_in h _ (List.getElem_mem hi')
  · have : L.getD i 0 = 0 := by simp [List.getD_eq_getElem?_getD, List.getElem?_eq_none (Nat.le_of_not_lt hi')]
    rw [this]
    exact ⟨l0, h0⟩
def pwE (L : List Int) : Int := if L.length ≤ 300 then cw (-1000000) 1000000 L else 8
theorem pwE_ok {L : List Int} (h : pwE L = 0) : L.length ≤ 300 ∧ ∀ i, -1000000 ≤ L.getD i 0 ∧ L.getD i 0 ≤ 1000000 := by
  unfold pwE at h
  split at h
  · rename_i c; exact ⟨c, cw_at h (by omega) (by omega)⟩
  · omega
def rmE (s r : Int) : Int := if win s (-1000000) 1000000 && win r 0 1000000 then 0 else 2
/-! Powers that follow. -/
def nxP (r p w : Int) : Int := imin (imax w (p - r)) (p + r)
def nxV (r p w : Int) : Int := imax (p - r) (imin (p + r) w)
theorem nx_eq {r : Int} (h : 0 ≤ r) (p w : Int) : nxV r p w = nxP r p w := by
  unfold nxV nxP imax imin; (repeat' split) <;> omega
def fS (s r : Int) (L : List Int) : Nat → Int
  | 0 => s
  | i + 1 => nxP r (fS s r L i) (L.getD i 0)
def folL (s r : Int) (L : List Int) (n : Nat) : List Int := (List.range n).map fun i => fS s r L (i + 1)
theorem folL_len (s r : Int) (L : List Int) (n : Nat) : (folL s r L n).length = n := by simp [folL]
theorem folL_succ (s r : Int) (L : List Int) (n : Nat) : folL s r L (n + 1) = folL s r L n ++ [fS s r L (n + 1)] := by simp [folL, List.range_succ]
theorem folL_get (s r : Int) (L : List Int) {n i : Nat} (h : i < n) : (folL s r L n).getD i 0 = fS s r L (i + 1) := by simp [folL, h]
/-- A start, a ramp and powers. -/
structure FIn (s r : Int) (L : List Int) : Prop where
  s0 : -1000000 ≤ s
  s1 : s ≤ 1000000
  r0 : 0 ≤ r
  r1 : r ≤ 1000000
  n : L.length ≤ 300
  d : ∀ i, -1000000 ≤ L.getD i 0 ∧ L.getD i 0 ≤ 1000000
theorem fin_of {s r : Int} {L : List Int} (h : rmE s r = 0) (hp : pwE L = 0) : FIn s r L := by
  unfold rmE at h
  split at h
  · rename_i c
    simp only [Bool.and_eq_true, win_iff] at c
    obtain ⟨c1, c2⟩ := pwE_ok hp
    exact ⟨c.1.1, c.1.2, c.2.1, c.2.2, c1, c2⟩
  · omega
theorem FIn.at {s r : Int} {L : List Int} (h : FIn s r L) : ∀ i, -1000000 ≤ fS s r L i ∧ fS s r L i ≤ 1000000
  | 0 => ⟨h.s0, h.s1⟩
  | i + 1 => by
    have ih := h.at i
    have hd := h.d i
    have r0 := h.r0
    show -1000000 ≤ nxP r (fS s r L i) (L.getD i 0) ∧ nxP r (fS s r L i) (L.getD i 0) ≤ 1000000
    generalize fS s r L i = p at *
    generalize L.getD i 0 = w at *
    unfold nxP imax imin; (repeat' split) <;> omega
/-- A power changes by no more than the ramp, and by the ramp unless it is what is wanted. -/
theorem nx_near {r : Int} (h : 0 ≤ r) (p w : Int) : p - r ≤ nxP r p w ∧ nxP r p w ≤ p + r ∧ (nxP r p w = w ∨ sz (nxP r p w - p) = r) := by
  unfold nxP sz imax imin; (repeat' split) <;> omega
/-- A constant power is reached. -/
theorem fS_rest {s r w : Int} (hr : 0 ≤ r) {L : List Int} {n : Nat} (hL : ∀ i, i < n → L.getD i 0 = w) : ∀ i, i ≤ n → fS s r L i = w ∨ sz (w - fS s r L i) + i * r = sz (w - s)
  | 0, _ => .inr (by show sz (w - s) + _ = _; simp)
  | i + 1, hi => by
    have ih := fS_rest (s := s) hr hL i (by omega)
    have e : fS s r L (i + 1) = nxP r (fS s r L i) w := by show nxP r _ (L.getD i 0) = _; rw [hL i (by omega)]
    rw [e]
    generalize fS s r L i = p at *
    have em : ((i + 1 : Nat) : Int) * r = i * r + r := by rw [show ((i + 1 : Nat) : Int) = (i : Int) + 1 from rfl, Int.add_mul]; omega
    rw [em]
    rcases ih with rfl | ih
    · left; unfold nxP imax imin; (repeat' split) <;> omega
    · generalize (i : Int) * r = q at *
      generalize sz (w - s) = z at *
      by_cases c : nxP r p w = w
      · exact .inl c
      · right
        unfold nxP sz imax imin at *
        (repeat' split at *) <;> omega
/-! Settlements. -/
def nrg (w m : Int) : Int := imax (imax 0 (imin w m)) (imin (-w) (-m))
def nrV (w m : Int) : Int := if (0 < w ∧ 0 < m) ∨ (w < 0 ∧ m < 0) then imin (sz w) (sz m) else 0
theorem nr_eq (w m : Int) : nrV w m = nrg w m := by
  unfold nrV nrg sz imax imin; (repeat' split) <;> omega
theorem nrg_in (w m : Int) : 0 ≤ nrg w m ∧ nrg w m ≤ sz w ∧ nrg w m ≤ sz m := by
  unfold nrg sz imax imin; (repeat' split) <;> omega
theorem nrg_self (w : Int) : nrg w w = sz w := by
  unfold nrg sz imax imin; (repeat' split) <;> omega
def eS (W M : List Int) : Nat → Int
  | 0 => 0
  | i + 1 => eS W M i + nrg (W.getD i 0) (M.getD i 0)
def mS (W M : List Int) : Nat → Int
  | 0 => 0
  | i + 1 => mS W M i + (sz (W.getD i 0) - nrg (W.getD i 0) (M.getD i 0))
def oS (W M : List Int) : Nat → Int
  | 0 => 0
  | i + 1 => oS W M i + (sz (M.getD i 0) - nrg (W.getD i 0) (M.getD i 0))
theorem sz_le {n : Int} (h : -1000000 ≤ n ∧ n ≤ 1000000) : 0 ≤ sz n ∧ sz n ≤ 1000000 := by unfold sz imax; split <;> omega
theorem eS_in {W M : List Int} (hW : ∀ i, -1000000 ≤ W.getD i 0 ∧ W.getD i 0 ≤ 1000000) : ∀ i, 0 ≤ eS W M i ∧ eS W M i ≤ i * 1000000
  | 0 => ⟨Int.le_refl 0, by simp [eS]⟩
  | i + 1 => by
    have ih := eS_in (M := M) hW i
    have h1 := nrg_in (W.getD i 0) (M.getD i 0)
    have h2 := sz_le (hW i)
    unfold eS
    omega
theorem mS_in {W M : List Int} (hW : ∀ i, -1000000 ≤ W.getD i 0 ∧ W.getD i 0 ≤ 1000000) : ∀ i, 0 ≤ mS W M i ∧ mS W M i ≤ i * 1000000
  | 0 => ⟨Int.le_refl 0, by simp [mS]⟩
  | i + 1 => by
    have ih := mS_in (M := M) hW i
    have h1 := nrg_in (W.getD i 0) (M.getD i 0)
    have h2 := sz_le (hW i)
    unfold mS
    omega
theorem oS_in {W M : List Int} (hM : ∀ i, -1000000 ≤ M.getD i 0 ∧ M.getD i 0 ≤ 1000000) : ∀ i, 0 ≤ oS W M i ∧ oS W M i ≤ i * 1000000
  | 0 => ⟨Int.le_refl 0, by simp [oS]⟩
  | i + 1 => by
    have ih := oS_in (W := W) hM i
    have h1 := nrg_in (W.getD i 0) (M.getD i 0)
    have h2 := sz_le (hM i)
    unfold oS
    omega
/-- The sizes, added up. -/
def zS (W : List Int) : Nat → Int
  | 0 => 0
  | i + 1 => zS W i + sz (W.getD i 0)
theorem em_z (W M : List Int) : ∀ i, eS W M i + mS W M i = zS W i
  | 0 => rfl
  | i + 1 => by have := em_z W M i; unfold eS mS zS; omega
theorem eo_z (W M : List Int) : ∀ i, eS W M i + oS W M i = zS M i
  | 0 => rfl
  | i + 1 => by have := eo_z W M i; unfold eS oS zS; omega
theorem self_z (W : List Int) : ∀ i, eS W W i = zS W i ∧ mS W W i = 0 ∧ oS W W i = 0
  | 0 => ⟨rfl, rfl, rfl⟩
  | i + 1 => by
    have := self_z W i
    have := nrg_self (W.getD i 0)
    unfold eS mS oS zS; omega
theorem zS_in {W : List Int} (hW : ∀ i, -1000000 ≤ W.getD i 0 ∧ W.getD i 0 ≤ 1000000) : ∀ i, 0 ≤ zS W i ∧ zS W i ≤ i * 1000000
  | 0 => ⟨Int.le_refl 0, by simp [zS]⟩
  | i + 1 => by
    have ih := zS_in hW i
    have h2 := sz_le (hW i)
    unfold zS
    omega
theorem getD_drop (W : List Int) (h k : Nat) : (W.drop h).getD k 0 = W.getD (h + k) 0 := by
  simp [List.getD_eq_getElem?_getD, List.getElem?_drop]
theorem getD_take (W : List Int) {h k : Nat} (hk : k < h) : (W.take h).getD k 0 = W.getD k 0 := by
  simp [List.getD_eq_getElem?_getD, List.getElem?_take, hk]
theorem eS_succ (W M : List Int) (i : Nat) : eS W M (i + 1) = eS W M i + nrg (W.getD i 0) (M.getD i 0) := rfl
theorem mS_succ (W M : List Int) (i : Nat) : mS W M (i + 1) = mS W M i + (sz (W.getD i 0) - nrg (W.getD i 0) (M.getD i 0)) := rfl
theorem oS_succ (W M : List Int) (i : Nat) : oS W M (i + 1) = oS W M i + (sz (M.getD i 0) - nrg (W.getD i 0) (M.getD i 0)) := rfl
theorem zS_succ (W : List Int) (i : Nat) : zS W (i + 1) = zS W i + sz (W.getD i 0) := rfl
theorem eS_split (W M : List Int) (h : Nat) : ∀ k, eS W M (h + k) = eS W M h + eS (W.drop h) (M.drop h) k ∧ mS W M (h + k) = mS W M h + mS (W.drop h) (M.drop h) k ∧ oS W M (h + k) = oS W M h + oS (W.drop h) (M.drop h) k
  | 0 => by simp [eS, mS, oS]
  | k + 1 => by
    have ih := eS_split W M h k
    have e1 := getD_drop W h k
    have e2 := getD_drop M h k
    rw [← Nat.add_assoc]
    simp only [eS_succ, mS_succ, oS_succ, e1, e2]
    omega
theorem eS_take (W M : List Int) (h : Nat) : ∀ k, k ≤ h → eS (W.take h) (M.take h) k = eS W M k ∧ mS (W.take h) (M.take h) k = mS W M k ∧ oS (W.take h) (M.take h) k = oS W M k
  | 0, _ => ⟨rfl, rfl, rfl⟩
  | k + 1, hk => by
    have ih := eS_take W M h k (by omega)
    have e1 := getD_take W (h := h) (k := k) (by omega)
    have e2 := getD_take M (h := h) (k := k) (by omega)
    unfold eS mS oS
    rw [e1, e2]
    omega
end Go.Proofs.Ytgijgcmcpgepaaa.Eng

/-
  DISPATCH: names.
-/
namespace Go.Proofs.Ytgijgcmcpgepaaa.Eng
set_option linter.unusedSimpArgs false
set_option linter.unusedVariables false
def isLet (c : Int) : Bool := (decide (97 ≤ c) && decide (c ≤ 122)) || (decide (65 ≤ c) && decide (c ≤ 90))
def isDig (c : Int) : Bool := decide (48 ≤ c) && decide (c ≤ 57)
theorem ba_len (s : ByteArray) : s.toList.length = s.size := by
  have h : ∀ (k i : Nat) (r : List UInt8), i + k = s.size → (ByteArray.toList.loop s i r).length = r.length + k := by
    intro k
    induction k with
    | zero => intro i r h; rw [ByteArray.toList.loop, if_neg (by omega)]; simp
    | succ k ih => intro i r h; rw [ByteArray.toList.loop, if_pos (by omega), ih _ _ (by omega)]; simp; omega
  have := h s.size 0 [] (by omega)
  simpa [ByteArray.toList] using this
theorem str_empty (s : ByteArray) : xstr .eql s ⟨⟨[]⟩⟩ = some (.bool (decide (s.size = 0))) := by
  have e0 : (⟨⟨[]⟩⟩ : ByteArray).toList = [] := List.eq_nil_of_length_eq_zero (ba_len _)
  have h : (s.toList == (⟨⟨[]⟩⟩ : ByteArray).toList) = decide (s.size = 0) := by
    rw [e0, ← ba_len s]
    cases s.toList with
    | nil => rfl
    | cons a l => simp
  show some (AVal.bool (s.toList == (⟨⟨[]⟩⟩ : ByteArray).toList)) = _
  rw [h]
/-- A byte of a string, as a number. -/
def byt (s : ByteArray) (i : Nat) : Int := match s[i]? with
  | some u => (u.toNat : Int)
  | none => 0
theorem byt_of {s : ByteArray} {i : Nat} (h : i < s.size) : byt s i = (s[i].toNat : Int) := by unfold byt; rw [getElem?_pos s i h]
def okF (s : ByteArray) : Nat → Nat → Bool
  | 0, _ => true
  | k + 1, i => (isLet (byt s i) || isDig (byt s i) || decide (byt s i = 45)) && okF s k (i + 1)
/-- Is it a name? -/
def nameB (s : ByteArray) : Bool := decide (1 ≤ s.size) && decide (s.size ≤ 12) && isLet (byt s 0) && okF s s.size 0
def okG (s : ByteArray) : Nat → Nat → Bool
  | 0, _ => true
  | k + 1, i => (isLet (byt s i) || (decide (i ≠ 0) && (decide (byt s i = 45) || isDig (byt s i)))) && okG s k (i + 1)
theorem okG_F (s : ByteArray) : ∀ (k i : Nat), i ≠ 0 → okG s k i = okF s k i
  | 0, _, _ => rfl
  | k + 1, i, h => by
    unfold okG okF
    rw [okG_F s k (i + 1) (by omega)]
    simp only [ne_eq, h, not_false_eq_true, decide_true, Bool.true_and]
    cases isLet (byt s i) <;> cases isDig (byt s i) <;> cases decide (byt s i = 45) <;> rfl
theorem okG_name {s : ByteArray} (h1 : 1 ≤ s.size) : okG s s.size 0 = (isLet (byt s 0) && okF s s.size 0) := by
  obtain ⟨k, hk⟩ : ∃ k, s.size = k + 1 := ⟨s.size - 1, by omega⟩
  rw [hk]
  unfold okG okF
  rw [okG_F s k 1 (by omega)]
  simp only [ne_eq, not_true_eq_false, decide_false, Bool.false_and, Bool.or_false]
  cases isLet (byt s 0) <;> simp
section
variable {X : FuncId → Option XFunc} (hX : DxNCode X)
include hX
theorem w137 (c : Int) (σ : Store) : Run X (.call 137) [.int .u8 c] σ = some (.ret, [.bool (isLet c)], σ) := by
  refine call1 (X := X) (a := .int .u8 c) (v := .bool (isLet c)) hX.h137 rfl (by decide) (fun tm hl h0 => ?_) rfl σ
  simp only [AVal.strip, stripL] at h0
  replace hl : tm.length = 17 := hl
  unfold Gives
  unfold isLet
  by_cases c1 : 97 ≤ c
  · by_cases c2 : c ≤ 122
    · simp [xf137, hl, h0, c1, c2]
    · by_cases c3 : 65 ≤ c <;> simp [xf137, hl, h0, c1, c2, c3]
  · by_cases c3 : 65 ≤ c <;> simp [xf137, hl, h0, c1, c3]
theorem w138 (c : Int) (σ : Store) : Run X (.call 138) [.int .u8 c] σ = some (.ret, [.bool (isDig c)], σ) := by
  refine call1 (X := X) (a := .int .u8 c) (v := .bool (isDig c)) hX.h138 rfl (by decide) (fun tm hl h0 => ?_) rfl σ
  simp only [AVal.strip, stripL] at h0
  replace hl : tm.length = 9 := hl
  unfold Gives
  unfold isDig
  by_cases c1 : 48 ≤ c <;> simp [xf138, hl, h0, c1]
theorem loop120 (s : ByteArray) (hn : s.size ≤ 1000) : ∀ (k i : Nat), i + k = s.size → ∀ (tm : List AVal) (σ : Store), tm.length = 39 → XOpd.eval tm (.t 0) = .str s → XOpd.eval tm (.t 19) = .int .i64 s.size → XOpd.eval tm (.t 20) = .int .i64 i →
    Ends (Run X (.code (.loop xf120l0)) tm σ) (if okF s k i then .exit 0 else .ret) fun tm' _ => tm'.length = 39 ∧ (okF s k i = false → XOpd.eval tm' (.t 2) = .bool false)
  | 0, i, hk, tm, σ, hl, h0, h19, h20 => by
    have hi : i = s.size := by omega
    subst hi
    rw [Run_loop]
    simp [xf120l0, hl, h0, h19, h20, okF]
  | k + 1, i, hk, tm, σ, hl, h0, h19, h20 => by
    have hi : i < s.size := by omega
    have hii : (i : Int) < s.size := by omega
    have hw : IntKind.i64.wrap ((i : Int) + 1) = ((i + 1 : Nat) : Int) := by rw [wrap_i64] <;> omega
    have hb := byt_of hi
    have u1 := w137 hX
    have u2 := w138 hX
    have ih := loop120 s hn k (i + 1) (by omega)
    rw [Run_loop]
    unfold okF
    rw [hb]
    cases c1 : isLet (s[i].toNat : Int) with
    | true =>
      simp only [Bool.true_or, Bool.true_and]
      simp [xf120l0, hl, h0, h19, h20, hii, hi, hw, u1, u2, c1]
      exact ih _ _ (by simp [hl]) (by simp [hl, h0]) (by simp [hl, h19]) (by simp [hl])
    | false =>
      cases c2 : isDig (s[i].toNat : Int) with
      | true =>
        simp only [Bool.true_or, Bool.or_true, Bool.true_and]
        simp [xf120l0, hl, h0, h19, h20, hii, hi, hw, u1, u2, c1, c2]
        exact ih _ _ (by simp [hl]) (by simp [hl, h0]) (by simp [hl, h19]) (by simp [hl])
      | false =>
        by_cases c3 : (s[i].toNat : Int) = 45
        · simp only [c3, decide_true, Bool.or_true, Bool.true_and]
          rw [c3] at c1 c2
          simp [xf120l0, hl, h0, h19, h20, hii, hi, hw, u1, u2, c1, c2, c3]
          exact ih _ _ (by simp [hl]) (by simp [hl, h0]) (by simp [hl, h19]) (by simp [hl])
        · simp only [c3, decide_false, Bool.or_false, Bool.false_and]
          simp [xf120l0, hl, h0, h19, h20, hii, hi, hw, u1, u2, c1, c2, c3]
theorem w120 (s : ByteArray) (hn : s.size ≤ 1000) (σ : Store) : Run X (.call 120) [.str s] σ = some (.ret, [.bool (nameB s)], σ) := by
  refine call1 (a := .str s) (v := .bool (nameB s)) hX.h120 rfl (by decide) (fun tm hl h0 => ?_) rfl σ
  simp only [AVal.strip] at h0
  replace hl : tm.length = 39 := hl
  have u1 := w137 hX
  have hL := fun tm σ h1 h2 h3 h4 => out_of (loop120 hX s hn s.size 0 (by omega) tm σ h1 h2 h3 h4)
  unfold nameB
  unfold Gives
  have hemp := str_empty s
  by_cases c0 : s.size = 0
  · have d1 : ¬ 1 ≤ s.size := by omega
    simp [xf120, hl, h0, hemp, c0, d1]
  · have d1 : 1 ≤ s.size := by omega
    by_cases c1 : s.size ≤ 12
    · have c1' : ¬ (12 : Int) < s.size := by omega
      have hp : 0 < s.size := d1
      have hb := byt_of hp
      cases c2 : isLet (s[0].toNat : Int) with
      | false =>
        rw [hb, c2]
        simp [xf120, hl, h0, hemp, c0, d1, c1, c1', hp, u1, c2]
      | true =>
        rw [hb, c2]
        cases c3 : okF s s.size 0 with
        | true =>
          rw [c3] at hL
          simp only [if_true] at hL
          simp (maxDischargeDepth := 9) [xf120, hl, h0, hemp, c0, d1, c1, c1', hp, u1, c2, hL]
        | false =>
          rw [c3] at hL
          simp only [Bool.false_eq_true, if_false] at hL
          simp (maxDischargeDepth := 9) [xf120, hl, h0, hemp, c0, d1, c1, c1', hp, u1, c2, hL]
    · have c1' : (12 : Int) < s.size := by omega
      simp [xf120, hl, h0, hemp, c0, d1, c1, c1']
end
end Go.Proofs.Ytgijgcmcpgepaaa.Eng

/-
  DISPATCH: names, of the reference.
-/
namespace Go.Proofs.Ytgijgcmcpgepaaa.Eng
set_option linter.unusedSimpArgs false
set_option linter.unusedVariables false
section
variable {X : FuncId → Option XFunc} (hX : DxNCode X)
include hX
omit hX in
theorem nmr0 {s : ByteArray} (hn : s.size ≤ 1000) {i : Nat} (hi : i < s.size) (q0 : 97 ≤ (s[i].toNat : Int)) (q1 : (s[i].toNat : Int) ≤ 122) (tm : List AVal) (σ : Store) (hl : tm.length = 55) (h0 : XOpd.eval tm (.t 0) = .str s) (h3 : XOpd.eval tm (.t 3) = .int .i64 i) : Ends (Run X (.code xf115l0) tm σ) .normal fun tm' _ => tm'.length = 55 ∧ XOpd.eval tm' (.t 0) = .str s ∧ XOpd.eval tm' (.t 3) = .int .i64 ((i + 1 : Nat) : Int) := by
  have hii : (i : Int) < s.size := by omega
  have hw : IntKind.i64.wrap ((i : Int) + 1) = ((i + 1 : Nat) : Int) := by rw [wrap_i64] <;> omega
  simp [xf115l0, hl, h0, h3, hii, hi, hw, q0, q1]
omit hX in
theorem nmr1 {s : ByteArray} (hn : s.size ≤ 1000) {i : Nat} (hi : i < s.size) (q0 : ¬ 97 ≤ (s[i].toNat : Int)) (q1 : 65 ≤ (s[i].toNat : Int)) (q2 : (s[i].toNat : Int) ≤ 90) (tm : List AVal) (σ : Store) (hl : tm.length = 55) (h0 : XOpd.eval tm (.t 0) = .str s) (h3 : XOpd.eval tm (.t 3) = .int .i64 i) : Ends (Run X (.code xf115l0) tm σ) .normal fun tm' _ => tm'.length = 55 ∧ XOpd.eval tm' (.t 0) = .str s ∧ XOpd.eval tm' (.t 3) = .int .i64 ((i + 1 : Nat) : Int) := by
  have hii : (i : Int) < s.size := by omega
  have hw : IntKind.i64.wrap ((i : Int) + 1) = ((i + 1 : Nat) : Int) := by rw [wrap_i64] <;> omega
  simp [xf115l0, hl, h0, h3, hii, hi, hw, q0, q1, q2]
omit hX in
theorem nmr2 {s : ByteArray} (hn : s.size ≤ 1000) {i : Nat} (hi : i < s.size) (q0 : 97 ≤ (s[i].toNat : Int)) (q1 : ¬ (s[i].toNat : Int) ≤ 122) (q2 : 65 ≤ (s[i].toNat : Int)) (q3 : ¬ (s[i].toNat : Int) ≤ 90) (q4 : i = 0) (tm : List AVal) (σ : Store) (hl : tm.length = 55) (h0 : XOpd.eval tm (.t 0) = .str s) (h3 : XOpd.eval tm (.t 3) = .int .i64 i) : Ends (Run X (.code xf115l0) tm σ) .ret fun tm' _ => tm'.length = 55 ∧ XOpd.eval tm' (.t 2) = .bool false := by
  subst q4
  have hii : ((0 : Nat) : Int) < s.size := by omega
  have hw : IntKind.i64.wrap (((0 : Nat) : Int) + 1) = ((0 + 1 : Nat) : Int) := by rw [wrap_i64] <;> omega
  simp [xf115l0, hl, h0, h3, hii, hi, hw, q0, q1, q2, q3]
omit hX in
theorem nmr3 {s : ByteArray} (hn : s.size ≤ 1000) {i : Nat} (hi : i < s.size) (q0 : 97 ≤ (s[i].toNat : Int)) (q1 : ¬ (s[i].toNat : Int) ≤ 122) (q2 : 65 ≤ (s[i].toNat : Int)) (q3 : ¬ (s[i].toNat : Int) ≤ 90) (q4 : ¬ i = 0) (q5 : ¬ (s[i].toNat : Int) = 45) (q6 : ¬ (s[i].toNat : Int) < 48) (q7 : 48 ≤ (s[i].toNat : Int)) (q8 : 57 < (s[i].toNat : Int)) (q9 : ¬ (s[i].toNat : Int) ≤ 57) (tm : List AVal) (σ : Store) (hl : tm.length = 55) (h0 : XOpd.eval tm (.t 0) = .str s) (h3 : XOpd.eval tm (.t 3) = .int .i64 i) : Ends (Run X (.code xf115l0) tm σ) .ret fun tm' _ => tm'.length = 55 ∧ XOpd.eval tm' (.t 2) = .bool false := by
  have hii : (i : Int) < s.size := by omega
  have hw : IntKind.i64.wrap ((i : Int) + 1) = ((i + 1 : Nat) : Int) := by rw [wrap_i64] <;> omega
  simp [xf115l0, hl, h0, h3, hii, hi, hw, q0, q1, q2, q3, q4, q5, q6, q7, q8, q9]
omit hX in
theorem nmr4 {s : ByteArray} (hn : s.size ≤ 1000) {i : Nat} (hi : i < s.size) (q0 : ¬ 97 ≤ (s[i].toNat : Int)) (q1 : ¬ 65 ≤ (s[i].toNat : Int)) (q2 : i = 0) (tm : List AVal) (σ : Store) (hl : tm.length = 55) (h0 : XOpd.eval tm (.t 0) = .str s) (h3 : XOpd.eval tm (.t 3) = .int .i64 i) : Ends (Run X (.code xf115l0) tm σ) .ret fun tm' _ => tm'.length = 55 ∧ XOpd.eval tm' (.t 2) = .bool false := by
  subst q2
  have hii : ((0 : Nat) : Int) < s.size := by omega
  have hw : IntKind.i64.wrap (((0 : Nat) : Int) + 1) = ((0 + 1 : Nat) : Int) := by rw [wrap_i64] <;> omega
  simp [xf115l0, hl, h0, h3, hii, hi, hw, q0, q1]
omit hX in
theorem nmr5 {s : ByteArray} (hn : s.size ≤ 1000) {i : Nat} (hi : i < s.size) (q0 : ¬ 97 ≤ (s[i].toNat : Int)) (q1 : ¬ 65 ≤ (s[i].toNat : Int)) (q2 : ¬ i = 0) (q3 : (s[i].toNat : Int) = 45) (tm : List AVal) (σ : Store) (hl : tm.length = 55) (h0 : XOpd.eval tm (.t 0) = .str s) (h3 : XOpd.eval tm (.t 3) = .int .i64 i) : Ends (Run X (.code xf115l0) tm σ) .normal fun tm' _ => tm'.length = 55 ∧ XOpd.eval tm' (.t 0) = .str s ∧ XOpd.eval tm' (.t 3) = .int .i64 ((i + 1 : Nat) : Int) := by
  have hii : (i : Int) < s.size := by omega
  have hw : IntKind.i64.wrap ((i : Int) + 1) = ((i + 1 : Nat) : Int) := by rw [wrap_i64] <;> omega
  simp [xf115l0, hl, h0, h3, hii, hi, hw, q0, q1, q2, q3]
omit hX in
theorem nmr6 {s : ByteArray} (hn : s.size ≤ 1000) {i : Nat} (hi : i < s.size) (q0 : ¬ 97 ≤ (s[i].toNat : Int)) (q1 : ¬ 65 ≤ (s[i].toNat : Int)) (q2 : ¬ i = 0) (q3 : ¬ (s[i].toNat : Int) = 45) (q4 : (s[i].toNat : Int) < 48) (q5 : ¬ 48 ≤ (s[i].toNat : Int)) (tm : List AVal) (σ : Store) (hl : tm.length = 55) (h0 : XOpd.eval tm (.t 0) = .str s) (h3 : XOpd.eval tm (.t 3) = .int .i64 i) : Ends (Run X (.code xf115l0) tm σ) .ret fun tm' _ => tm'.length = 55 ∧ XOpd.eval tm' (.t 2) = .bool false := by
  have hii : (i : Int) < s.size := by omega
  have hw : IntKind.i64.wrap ((i : Int) + 1) = ((i + 1 : Nat) : Int) := by rw [wrap_i64] <;> omega
  simp [xf115l0, hl, h0, h3, hii, hi, hw, q0, q1, q2, q3, q4, q5]
omit hX in
theorem nmr7 {s : ByteArray} (hn : s.size ≤ 1000) {i : Nat} (hi : i < s.size) (q0 : ¬ 97 ≤ (s[i].toNat : Int)) (q1 : ¬ 65 ≤ (s[i].toNat : Int)) (q2 : ¬ i = 0) (q3 : ¬ (s[i].toNat : Int) = 45) (q4 : ¬ (s[i].toNat : Int) < 48) (q5 : 48 ≤ (s[i].toNat : Int)) (q6 : 57 < (s[i].toNat : Int)) (q7 : ¬ (s[i].toNat : Int) ≤ 57) (tm : List AVal) (σ : Store) (hl : tm.length = 55) (h0 : XOpd.eval tm (.t 0) = .str s) (h3 : XOpd.eval tm (.t 3) = .int .i64 i) : Ends (Run X (.code xf115l0) tm σ) .ret fun tm' _ => tm'.length = 55 ∧ XOpd.eval tm' (.t 2) = .bool false := by
  have hii : (i : Int) < s.size := by omega
  have hw : IntKind.i64.wrap ((i : Int) + 1) = ((i + 1 : Nat) : Int) := by rw [wrap_i64] <;> omega
  simp [xf115l0, hl, h0, h3, hii, hi, hw, q0, q1, q2, q3, q4, q5, q6, q7]
omit hX in
theorem nmr8 {s : ByteArray} (hn : s.size ≤ 1000) {i : Nat} (hi : i < s.size) (q0 : ¬ 97 ≤ (s[i].toNat : Int)) (q1 : ¬ 65 ≤ (s[i].toNat : Int)) (q2 : ¬ i = 0) (q3 : ¬ (s[i].toNat : Int) = 45) (q4 : ¬ (s[i].toNat : Int) < 48) (q5 : 48 ≤ (s[i].toNat : Int)) (q6 : ¬ 57 < (s[i].toNat : Int)) (q7 : (s[i].toNat : Int) ≤ 57) (tm : List AVal) (σ : Store) (hl : tm.length = 55) (h0 : XOpd.eval tm (.t 0) = .str s) (h3 : XOpd.eval tm (.t 3) = .int .i64 i) : Ends (Run X (.code xf115l0) tm σ) .normal fun tm' _ => tm'.length = 55 ∧ XOpd.eval tm' (.t 0) = .str s ∧ XOpd.eval tm' (.t 3) = .int .i64 ((i + 1 : Nat) : Int) := by
  have hii : (i : Int) < s.size := by omega
  have hw : IntKind.i64.wrap ((i : Int) + 1) = ((i + 1 : Nat) : Int) := by rw [wrap_i64] <;> omega
  simp [xf115l0, hl, h0, h3, hii, hi, hw, q0, q1, q2, q3, q4, q5, q6, q7]
omit hX in
theorem nmr9 {s : ByteArray} (hn : s.size ≤ 1000) {i : Nat} (hi : i < s.size) (q0 : ¬ 97 ≤ (s[i].toNat : Int)) (q1 : 65 ≤ (s[i].toNat : Int)) (q2 : ¬ (s[i].toNat : Int) ≤ 90) (q3 : i = 0) (tm : List AVal) (σ : Store) (hl : tm.length = 55) (h0 : XOpd.eval tm (.t 0) = .str s) (h3 : XOpd.eval tm (.t 3) = .int .i64 i) : Ends (Run X (.code xf115l0) tm σ) .ret fun tm' _ => tm'.length = 55 ∧ XOpd.eval tm' (.t 2) = .bool false := by
  subst q3
  have hii : ((0 : Nat) : Int) < s.size := by omega
  have hw : IntKind.i64.wrap (((0 : Nat) : Int) + 1) = ((0 + 1 : Nat) : Int) := by rw [wrap_i64] <;> omega
  simp [xf115l0, hl, h0, h3, hii, hi, hw, q0, q1, q2]
omit hX in
theorem nmr10 {s : ByteArray} (hn : s.size ≤ 1000) {i : Nat} (hi : i < s.size) (q0 : ¬ 97 ≤ (s[i].toNat : Int)) (q1 : 65 ≤ (s[i].toNat : Int)) (q2 : ¬ (s[i].toNat : Int) ≤ 90) (q3 : ¬ i = 0) (q4 : ¬ (s[i].toNat : Int) = 45) (q5 : ¬ (s[i].toNat : Int) < 48) (q6 : 48 ≤ (s[i].toNat : Int)) (q7 : 57 < (s[i].toNat : Int)) (q8 : ¬ (s[i].toNat : Int) ≤ 57) (tm : List AVal) (σ : Store) (hl : tm.length = 55) (h0 : XOpd.eval tm (.t 0) = .str s) (h3 : XOpd.eval tm (.t 3) = .int .i64 i) : Ends (Run X (.code xf115l0) tm σ) .ret fun tm' _ => tm'.length = 55 ∧ XOpd.eval tm' (.t 2) = .bool false := by
  have hii : (i : Int) < s.size := by omega
  have hw : IntKind.i64.wrap ((i : Int) + 1) = ((i + 1 : Nat) : Int) := by rw [wrap_i64] <;> omega
  simp [xf115l0, hl, h0, h3, hii, hi, hw, q0, q1, q2, q3, q4, q5, q6, q7, q8]
omit hX in
def okc (s : ByteArray) (i : Nat) : Bool := isLet (byt s i) || (decide (i ≠ 0) && (decide (byt s i = 45) || isDig (byt s i)))
omit hX in
theorem nmr {s : ByteArray} (hn : s.size ≤ 1000) {i : Nat} (hi : i < s.size) (tm : List AVal) (σ : Store) (hl : tm.length = 55) (h0 : XOpd.eval tm (.t 0) = .str s) (h3 : XOpd.eval tm (.t 3) = .int .i64 i) :
    (okc s i = true → Ends (Run X (.code xf115l0) tm σ) .normal fun tm' _ => tm'.length = 55 ∧ XOpd.eval tm' (.t 0) = .str s ∧ XOpd.eval tm' (.t 3) = .int .i64 ((i + 1 : Nat) : Int)) ∧
    (okc s i = false → Ends (Run X (.code xf115l0) tm σ) .ret fun tm' _ => tm'.length = 55 ∧ XOpd.eval tm' (.t 2) = .bool false) := by
  have hb := byt_of hi
  unfold okc isLet isDig
  rw [hb]
  have a0 := fun q0 q1 => nmr0 (X := X) hn hi q0 q1 tm σ hl h0 h3
  have a1 := fun q0 q1 q2 => nmr1 (X := X) hn hi q0 q1 q2 tm σ hl h0 h3
  have a2 := fun q0 q1 q2 q3 q4 => nmr2 (X := X) hn hi q0 q1 q2 q3 q4 tm σ hl h0 h3
  have a3 := fun q0 q1 q2 q3 q4 q5 q6 q7 q8 q9 => nmr3 (X := X) hn hi q0 q1 q2 q3 q4 q5 q6 q7 q8 q9 tm σ hl h0 h3
  have a4 := fun q0 q1 q2 => nmr4 (X := X) hn hi q0 q1 q2 tm σ hl h0 h3
  have a5 := fun q0 q1 q2 q3 => nmr5 (X := X) hn hi q0 q1 q2 q3 tm σ hl h0 h3
  have a6 := fun q0 q1 q2 q3 q4 q5 => nmr6 (X := X) hn hi q0 q1 q2 q3 q4 q5 tm σ hl h0 h3
  have a7 := fun q0 q1 q2 q3 q4 q5 q6 q7 => nmr7 (X := X) hn hi q0 q1 q2 q3 q4 q5 q6 q7 tm σ hl h0 h3
  have a8 := fun q0 q1 q2 q3 q4 q5 q6 q7 => nmr8 (X := X) hn hi q0 q1 q2 q3 q4 q5 q6 q7 tm σ hl h0 h3
  have a9 := fun q0 q1 q2 q3 => nmr9 (X := X) hn hi q0 q1 q2 q3 tm σ hl h0 h3
  have a10 := fun q0 q1 q2 q3 q4 q5 q6 q7 q8 => nmr10 (X := X) hn hi q0 q1 q2 q3 q4 q5 q6 q7 q8 tm σ hl h0 h3
  generalize (s[i].toNat : Int) = c at *
  by_cases x1 : 97 ≤ c
  · by_cases x2 : c ≤ 122
    · exact ⟨fun _ => a0 x1 x2, fun h => by simp [x1, x2] at h⟩
    · have y1 : 65 ≤ c := by omega
      have y2 : ¬ c ≤ 90 := by omega
      have y3 : ¬ c = 45 := by omega
      have y4 : 48 ≤ c := by omega
      have y5 : ¬ c ≤ 57 := by omega
      refine ⟨fun h => by simp [x1, x2, y1, y2, y3, y4, y5] at h, fun _ => ?_⟩
      by_cases x0 : i = 0
      · exact a2 x1 x2 y1 y2 x0
      · exact a3 x1 x2 y1 y2 x0 y3 (by omega) y4 (by omega) y5
  · by_cases x3 : 65 ≤ c
    · by_cases x4 : c ≤ 90
      · exact ⟨fun _ => a1 x1 x3 x4, fun h => by simp [x3, x4] at h⟩
      · have y3 : ¬ c = 45 := by omega
        have y4 : 48 ≤ c := by omega
        have y5 : ¬ c ≤ 57 := by omega
        refine ⟨fun h => by simp [x1, x3, x4, y3, y4, y5] at h, fun _ => ?_⟩
        by_cases x0 : i = 0
        · exact a9 x1 x3 x4 x0
        · exact a10 x1 x3 x4 x0 y3 (by omega) y4 (by omega) y5
    · by_cases x0 : i = 0
      · exact ⟨fun h => by simp [x1, x3, x0] at h, fun _ => a4 x1 x3 x0⟩
      · by_cases x5 : c = 45
        · exact ⟨fun _ => a5 x1 x3 x0 x5, fun h => by simp [x0, x5] at h⟩
        · by_cases x6 : 48 ≤ c
          · by_cases x7 : c ≤ 57
            · exact ⟨fun _ => a8 x1 x3 x0 x5 (by omega) x6 (by omega) x7, fun h => by simp [x0, x6, x7] at h⟩
            · exact ⟨fun h => by simp [x1, x3, x5, x7] at h, fun _ => a7 x1 x3 x0 x5 (by omega) x6 (by omega) x7⟩
          · exact ⟨fun h => by simp [x1, x3, x5, x6] at h, fun _ => a6 x1 x3 x0 x5 (by omega) x6⟩
omit hX in
theorem loop115 (s : ByteArray) (hn : s.size ≤ 1000) : ∀ (k i : Nat), i + k = s.size → ∀ (tm : List AVal) (σ : Store), tm.length = 55 → XOpd.eval tm (.t 0) = .str s → XOpd.eval tm (.t 3) = .int .i64 i →
    Ends (Run X (.code (.loop xf115l0)) tm σ) (if okG s k i then .exit 0 else .ret) fun tm' _ => tm'.length = 55 ∧ (okG s k i = false → XOpd.eval tm' (.t 2) = .bool false)
  | 0, i, hk, tm, σ, hl, h0, h3 => by
    have hi : i = s.size := by omega
    subst hi
    rw [Run_loop]
    simp [xf115l0, hl, h0, h3, okG]
  | k + 1, i, hk, tm, σ, hl, h0, h3 => by
    have hi : i < s.size := by omega
    obtain ⟨r1, r2⟩ := nmr (X := X) hn hi tm σ hl h0 h3
    have e : okG s (k + 1) i = (okc s i && okG s k (i + 1)) := rfl
    rw [Run_loop, e]
    cases hc : okc s i with
    | true =>
      obtain ⟨o1, p1, p2, p3⟩ := out_of (r1 hc)
      rw [o1, thenC_normal, Bool.true_and]
      exact loop115 s hn k (i + 1) (by omega) _ _ p1 p2 p3
    | false =>
      obtain ⟨o1, p1, p2⟩ := out_of (r2 hc)
      rw [o1, thenC_ret, Bool.false_and]
      exact ⟨_, _, rfl, p1, fun _ => p2⟩
theorem w115 (s : ByteArray) (hn : s.size ≤ 1000) (σ : Store) : Run X (.call 115) [.str s] σ = some (.ret, [.bool (nameB s)], σ) := by
  refine call1 (a := .str s) (v := .bool (nameB s)) hX.h115 rfl (by decide) (fun tm hl h0 => ?_) rfl σ
  simp only [AVal.strip] at h0
  replace hl : tm.length = 55 := hl
  have hL := fun tm σ h1 h2 h3 => out_of (loop115 (X := X) s hn s.size 0 (by omega) tm σ h1 h2 h3)
  unfold nameB
  unfold Gives
  by_cases d1 : 1 ≤ s.size
  · have d1' : ¬ (s.size : Int) < 1 := by omega
    by_cases c1 : s.size ≤ 12
    · have c1' : ¬ (12 : Int) < s.size := by omega
      have hg := okG_name d1
      rw [Bool.and_assoc, ← hg]
      cases c3 : okG s s.size 0 with
      | true =>
        rw [c3] at hL
        simp only [if_true] at hL
        simp (maxDischargeDepth := 9) [xf115, hl, h0, d1, d1', c1, c1', hL]
      | false =>
        rw [c3] at hL
        simp only [Bool.false_eq_true, if_false] at hL
        simp (maxDischargeDepth := 9) [xf115, hl, h0, d1, d1', c1, c1', hL]
    · have c1' : (12 : Int) < s.size := by omega
      simp [xf115, hl, h0, d1, d1', c1, c1']
  · have d1' : (s.size : Int) < 1 := by omega
    simp [xf115, hl, h0, d1, d1']
end
end Go.Proofs.Ytgijgcmcpgepaaa.Eng

/-
  Strings that are equal; lists of strings.
-/
namespace Go.Proofs.Ytgijgcmcpgepaaa.Eng
set_option linter.unusedSimpArgs false
set_option linter.unusedVariables false
theorem ba_toList (s : ByteArray) : s.toList = s.data.toList := by
  have h : ∀ (k i : Nat) (r : List UInt8), i + k = s.size → ByteArray.toList.loop s i r = r.reverse ++ s.data.toList.drop i := by
    intro k
    induction k with
    | zero =>
      intro i r h
      have hd : s.data.toList.drop i = [] := List.drop_eq_nil_of_le (by show s.size ≤ i; omega)
      rw [ByteArray.toList.loop, if_neg (by omega), hd, List.append_nil]
    | succ k ih =>
      intro i r h
      have hi : i < s.data.toList.length := by show i < s.size; omega
      have hd : s.data.toList.drop i = s.data.toList[i] :: s.data.toList.drop (i + 1) := List.drop_eq_getElem_cons hi
      have hg : s.get! i = s.data.toList[i] := by
        have hi' : i < s.data.size := hi
        cases s with | mk d =>
        show d[i]! = d.toList[i]
        rw [getElem!_pos d i hi']
        simp
      rw [ByteArray.toList.loop, if_pos (by omega), ih _ _ (by omega), hd, hg]
      simp
  have := h s.size 0 [] (by omega)
  simpa [ByteArray.toList] using this
theorem str_eq (a b : ByteArray) : (a.toList == b.toList) = decide (a = b) := by
  rw [ba_toList, ba_toList]
  by_cases h : a = b
  · subst h; simp
  · have : a.data.toList ≠ b.data.toList := by
      intro e
      apply h
      cases a with | mk x => cases b with | mk y =>
      have : x = y := Array.toList_inj.1 e
      rw [this]
    have h2 : (a.data.toList == b.data.toList) = false := by simpa using this
    rw [h2]; simp [h]
theorem xstr_eql (a b : ByteArray) : xstr .eql a b = some (.bool (decide (a = b))) := by
  show some (AVal.bool (a.toList == b.toList)) = _
  rw [str_eq]
theorem ba_beq_dec (a b : ByteArray) : (a == b) = decide (a = b) := by
  by_cases h : a = b
  · subst h
    simp only [decide_true]
    exact ba_self a
  · have : (a == b) ≠ true := fun e => h (ba_beq e)
    simp [h] at this ⊢
    exact this
def strs (K : List ByteArray) : List AVal := K.map .str
theorem strs_fr (K : List ByteArray) : freeL (strs K) = true := by
  unfold strs
  induction K with
  | nil => rfl
  | cons r l ih => simp [freeL, AVal.free, ih]
theorem strs_len (K : List ByteArray) : (strs K).length = K.length := by simp [strs]
def StrV (K : List ByteArray) (v : AVal) : Prop := v = .list 1 (strs K) none ∨ (v = .nils ∧ K = [])
theorem StrV.free {K : List ByteArray} {v : AVal} (h : StrV K v) : v.free = true ∧ v.strip = v := by
  rcases h with rfl | ⟨rfl, _⟩
  · exact ⟨by simp [AVal.free, strs_fr], by simp [AVal.strip, freeL_strip (strs_fr K)]⟩
  · exact ⟨rfl, rfl⟩
theorem StrV.len {K : List ByteArray} {v : AVal} (h : StrV K v) : xlen v = some (.int .i64 K.length) ∧ v.down = v := by
  rcases h with rfl | ⟨rfl, rfl⟩ <;> simp [xlen, strs_len]
theorem StrV.ne {K : List ByteArray} {v : AVal} (h : StrV K v) (hn : K ≠ []) : v = .list 1 (strs K) none := by
  rcases h with rfl | ⟨_, e⟩
  · rfl
  · exact absurd e hn
def hasT (s : ByteArray) : List ByteArray → Bool
  | [] => false
  | a :: l => if a = s then true else hasT s l
end Go.Proofs.Ytgijgcmcpgepaaa.Eng

/-
  DISPATCH: lists of names.
-/
namespace Go.Proofs.Ytgijgcmcpgepaaa.Eng
set_option linter.unusedSimpArgs false
set_option linter.unusedVariables false
/-- The error of a name behind others. -/
def nameE (K : List ByteArray) (s : ByteArray) : Int := if nameB s then (if hasT s K then 5 else 0) else 4
section
variable {X : FuncId → Option XFunc} (hX : DxNCode X)
include hX
omit hX in
theorem loop116 (K : List ByteArray) {v : AVal} (hv : StrV K v) (hn : K.length ≤ 1000000000) (s : ByteArray) : ∀ (k i : Nat), i + k = K.length → ∀ (tm : List AVal) (σ : Store), tm.length = 18 → XOpd.eval tm (.t 0) = v → XOpd.eval tm (.t 1) = .str s → XOpd.eval tm (.t 5) = .int .i64 i →
    Ends (Run X (.code (.loop xf116l0)) tm σ) (if hasT s (K.drop i) then .ret else .exit 0) fun tm' _ => tm'.length = 18 ∧ (hasT s (K.drop i) = true → XOpd.eval tm' (.t 4) = .bool true)
  | 0, i, hk, tm, σ, hl, h0, h1, h5 => by
    have hi : i = K.length := by omega
    subst hi
    obtain ⟨kln, kdn⟩ := hv.len
    rw [Run_loop]
    simp [xf116l0, hl, h0, h1, h5, kln, kdn, hasT]
  | k + 1, i, hk, tm, σ, hl, h0, h1, h5 => by
    have hi : i < K.length := by omega
    have hd : K.drop i = K[i] :: K.drop (i + 1) := List.drop_eq_getElem_cons hi
    have hw : IntKind.i64.wrap ((i : Int) + 1) = ((i + 1 : Nat) : Int) := by rw [wrap_i64] <;> omega
    have h0' : XOpd.eval tm (.t 0) = .list 1 (strs K) none := by rw [h0]; exact hv.ne (by intro e; simp [e] at hi)
    have ih := loop116 K hv hn s k (i + 1) (by omega)
    rw [Run_loop, hd]
    by_cases e : K[i] = s
    · simp only [hasT, e, if_true]
      simp [xf116l0, hl, h0', h1, h5, hi, hw, strs, xstr_eql, e, xload, xlen, AVal.cells]
    · simp only [hasT, e, if_false]
      simp [xf116l0, hl, h0', h1, h5, hi, hw, strs, xstr_eql, e, xload, xlen, AVal.cells]
      exact ih _ _ (by simp [hl]) (by simp [hl, h0]) (by simp [hl, h1]) (by simp [hl])
theorem w116 {K : List ByteArray} {v : AVal} (hv : StrV K v) (hn : K.length ≤ 1000000000) (s : ByteArray) (σ : Store) : Run X (.call 116) [v, .str s] σ = some (.ret, [.bool (hasT s K)], σ) := by
  refine call2 (a := v) (b := .str s) (v := .bool (hasT s K)) hX.h116 (by rw [hv.free.2]; exact hv.free.1) rfl (by decide) (fun tm hl h0 h1 => ?_) rfl σ
  rw [hv.free.2] at h0
  simp only [AVal.strip] at h1
  replace hl : tm.length = 18 := hl
  have hL := fun tm σ h1 h2 h3 h4 => out_of (loop116 (X := X) K hv hn s K.length 0 (by omega) tm σ h1 h2 h3 h4)
  simp only [List.drop_zero] at hL
  unfold Gives
  cases he : hasT s K
  · simp only [he, Bool.false_eq_true, if_false] at hL
    simp (maxDischargeDepth := 9) [xf116, hl, h0, h1, hL, he]
  · simp only [he, if_true] at hL
    simp (maxDischargeDepth := 9) [xf116, hl, h0, h1, hL, he]
end
end Go.Proofs.Ytgijgcmcpgepaaa.Eng

/-
  DISPATCH: small functions.
-/
namespace Go.Proofs.Ytgijgcmcpgepaaa.Eng
set_option linter.unusedSimpArgs false
set_option linter.unusedVariables false
section
variable {X : FuncId → Option XFunc} (hX : DxACode X)
include hX
theorem w33 (a b c : Int) (σ : Store) : Run X (.call 33) [.int .i64 a, .int .i64 b, .int .i64 c] σ = some (.ret, [.bool (win a b c)], σ) := by
  refine call3 (X := X) (a := .int .i64 a) (b := .int .i64 b) (c := .int .i64 c) (v := .bool (win a b c)) hX.h33 rfl rfl rfl (by decide) (fun tm hl h0 h1 h2 => ?_) rfl σ
  simp only [AVal.strip, stripL] at h0 h1 h2
  replace hl : tm.length = 15 := hl
  unfold Gives
  by_cases e1 : b ≤ a <;> simp [xf33, hl, h0, h1, h2, e1, win]
theorem w52 {a : Int} (hw : IntKind.i64.wrap (-a) = -a) (σ : Store) : Run X (.call 52) [.int .i64 a] σ = some (.ret, [.int .i64 (sz a)], σ) := by
  refine call1 (X := X) (a := .int .i64 a) (v := .int .i64 (sz a)) hX.h52 rfl (by decide) (fun tm hl h0 => ?_) rfl σ
  simp only [AVal.strip, stripL] at h0
  replace hl : tm.length = 7 := hl
  unfold Gives
  simp [xf52, hl, h0, hw, xext, xmm_max, sz]
  rfl
theorem w103 {a : Int} (hw : IntKind.i64.wrap (-a) = -a) (σ : Store) : Run X (.call 103) [.int .i64 a] σ = some (.ret, [.int .i64 (sz a)], σ) := by
  refine call1 (X := X) (a := .int .i64 a) (v := .int .i64 (sz a)) hX.h103 rfl (by decide) (fun tm hl h0 => ?_) rfl σ
  simp only [AVal.strip, stripL] at h0
  replace hl : tm.length = 7 := hl
  unfold Gives
  simp [xf103, hl, h0, hw, xext, xmm_max, sz]
  rfl
theorem w102 {w m : Int} (hw : IntKind.i64.wrap (-w) = -w) (hm : IntKind.i64.wrap (-m) = -m) (σ : Store) : Run X (.call 102) [.int .i64 w, .int .i64 m] σ = some (.ret, [.int .i64 (nrg w m)], σ) := by
  refine call2 (X := X) (a := .int .i64 w) (b := .int .i64 m) (v := .int .i64 (nrg w m)) hX.h102 rfl rfl (by decide) (fun tm hl h0 h1 => ?_) rfl σ
  simp only [AVal.strip, stripL] at h0 h1
  replace hl : tm.length = 14 := hl
  unfold Gives
  simp [xf102, hl, h0, h1, hw, hm, xext, xmm_max, xmm_min, nrg]
  unfold imax imin
  (repeat' split) <;> omega
theorem w71 (c : Bool) (e : Int) (σ : Store) : Run X (.call 71) [.bool c, .int .i64 e] σ = some (.ret, [.int .i64 (if c then 0 else e)], σ) := by
  refine call2 (X := X) (a := .bool c) (b := .int .i64 e) (v := .int .i64 (if c then 0 else e)) hX.h71 rfl rfl (by decide) (fun tm hl h0 h1 => ?_) rfl σ
  simp only [AVal.strip, stripL] at h0 h1
  replace hl : tm.length = 7 := hl
  unfold Gives
  cases c <;> simp [xf71, hl, h0, h1]
omit hX in
theorem loop69 (es : List Int) (hn : es.length ≤ 1000000000) : ∀ (k i : Nat), i + k = es.length → ∀ (tm : List AVal) (σ : Store), tm.length = 15 → XOpd.eval tm (.t 5) = .list 1 (es.map (.int .i64)) none → XOpd.eval tm (.t 6) = .int .i64 es.length → XOpd.eval tm (.t 7) = .int .i64 i →
    Ends (Run X (.code (.loop xf69l0)) tm σ) (if firstNZ (es.drop i) = 0 then .exit 0 else .ret) fun tm' _ => tm'.length = 15 ∧ (firstNZ (es.drop i) ≠ 0 → XOpd.eval tm' (.t 2) = .int .i64 (firstNZ (es.drop i)))
  | 0, i, hk, tm, σ, hl, h5, h6, h7 => by
    have hi : i = es.length := by omega
    subst hi
    rw [Run_loop]
    simp [xf69l0, hl, h5, h6, h7, firstNZ]
  | k + 1, i, hk, tm, σ, hl, h5, h6, h7 => by
    have hi : i < es.length := by omega
    have hd : es.drop i = es[i] :: es.drop (i + 1) := List.drop_eq_getElem_cons hi
    have hw : IntKind.i64.wrap ((i : Int) + 1) = ((i + 1 : Nat) : Int) := by rw [wrap_i64] <;> omega
    rw [Run_loop, hd]
    by_cases he : es[i] = 0
    · have ih := loop69 es hn k (i + 1) (by omega)
      simp only [firstNZ, he, if_true]
      simp [xf69l0, hl, h5, h6, h7, hi, he, hw, xload, AVal.cells]
      exact ih _ _ (by simp [hl]) (by simp [hl, h5]) (by simp [hl, h6]) (by simp [hl])
    · simp only [firstNZ, he, if_false]
      simp [xf69l0, hl, h5, h6, h7, hi, he, xload, AVal.cells]
omit hX in
theorem eints_free (es : List Int) : freeL (es.map (AVal.int .i64)) = true := by
  induction es with
  | nil => rfl
  | cons e l ih => simp [freeL, AVal.free, ih]
theorem w69 (es : List Int) (hn : es.length ≤ 1000000000) (tok : Option Nat) (σ : Store) : Run X (.call 69) [.list 1 (es.map (.int .i64)) tok] σ = some (.ret, [.int .i64 (firstNZ es)], σ) := by
  refine call1 (v := .int .i64 (firstNZ es)) hX.h69 (by simp [AVal.strip, AVal.free, freeL_strip (eints_free es), eints_free]) (by decide) (fun tm hl h0 => ?_) rfl σ
  simp only [AVal.strip, freeL_strip (eints_free es)] at h0
  replace hl : tm.length = 15 := hl
  have hL := fun tm σ h1 h2 h3 h4 => out_of (loop69 (X := X) es hn es.length 0 (by omega) tm σ h1 h2 h3 h4)
  simp only [List.drop_zero] at hL
  unfold Gives
  by_cases he : firstNZ es = 0
  · simp only [he, if_true] at hL
    simp (maxDischargeDepth := 9) [xf69, hl, h0, hL, he, xlen]
  · simp only [he, if_false] at hL
    simp (maxDischargeDepth := 9) [xf69, hl, h0, hL, he, xlen]
theorem first2 (a b : Int) (tok : Option Nat) (σ : Store) : Run X (.call 69) [.list 1 [.int .i64 a, .int .i64 b] tok] σ = some (.ret, [.int .i64 (firstNZ [a, b])], σ) := w69 hX [a, b] (by simp) tok σ
theorem first3 (a b c : Int) (tok : Option Nat) (σ : Store) : Run X (.call 69) [.list 1 [.int .i64 a, .int .i64 b, .int .i64 c] tok] σ = some (.ret, [.int .i64 (firstNZ [a, b, c])], σ) := w69 hX [a, b, c] (by simp) tok σ
theorem first4 (a b c d : Int) (tok : Option Nat) (σ : Store) : Run X (.call 69) [.list 1 [.int .i64 a, .int .i64 b, .int .i64 c, .int .i64 d] tok] σ = some (.ret, [.int .i64 (firstNZ [a, b, c, d])], σ) := w69 hX [a, b, c, d] (by simp) tok σ
theorem first5 (a b c d e : Int) (tok : Option Nat) (σ : Store) : Run X (.call 69) [.list 1 [.int .i64 a, .int .i64 b, .int .i64 c, .int .i64 d, .int .i64 e] tok] σ = some (.ret, [.int .i64 (firstNZ [a, b, c, d, e])], σ) := w69 hX [a, b, c, d, e] (by simp) tok σ
end
end Go.Proofs.Ytgijgcmcpgepaaa.Eng

/-
  DISPATCH: names that must differ.
-/
namespace Go.Proofs.Ytgijgcmcpgepaaa.Eng
set_option linter.unusedSimpArgs false
set_option linter.unusedVariables false
/-- A map of names. -/
def nms (K : List ByteArray) : List (AVal × AVal) := K.map fun k => (.str k, .bool true)
def addN (K : List ByteArray) (s : ByteArray) : List ByteArray := if hasT s K then K else K ++ [s]
theorem key_str (a b : ByteArray) : keyEq 2 (.str a) (.str b) = some (decide (a = b)) := by
  show (if (2 : Nat) = 2 then some (a == b) else none) = _
  rw [if_pos rfl, ba_beq_dec]
theorem find_no {s : ByteArray} : ∀ {K : List ByteArray} (i : Nat), hasT s K = false → xfind 2 (.str s) (nms K) i = some none
  | [], i, _ => rfl
  | a :: K, i, h => by
    unfold hasT at h
    by_cases e : a = s
    · simp [e] at h
    · simp only [e, if_false] at h
      have e' : ¬ s = a := fun x => e x.symm
      have : nms (a :: K) = (.str a, .bool true) :: nms K := rfl
      rw [this]
      unfold xfind
      simp only [key_str, e', decide_false]
      exact find_no (i + 1) h
theorem find_yes {s : ByteArray} : ∀ {K : List ByteArray} (i : Nat), hasT s K = true → ∃ j, xfind 2 (.str s) (nms K) i = some (some (i + j, .bool true)) ∧ (nms K).set j (.str s, .bool true) = nms K
  | [], i, h => by simp [hasT] at h
  | a :: K, i, h => by
    have hc : nms (a :: K) = (.str a, .bool true) :: nms K := rfl
    rw [hc]
    unfold hasT at h
    by_cases e : a = s
    · subst e
      refine ⟨0, ?_, rfl⟩
      unfold xfind
      simp only [key_str, decide_true]
      rfl
    · simp only [e, if_false] at h
      have e' : ¬ s = a := fun x => e x.symm
      obtain ⟨j, h1, h2⟩ := find_yes (i + 1) h
      refine ⟨j + 1, ?_, by simp [h2]⟩
      unfold xfind
      simp only [key_str, e', decide_false]
      rw [h1, show i + 1 + j = i + (j + 1) from by omega]
section
variable {X : FuncId → Option XFunc} (hX : DxNCode X) (hY : DxACode X)
include hX hY
set_option maxHeartbeats 4000000 in
theorem w119 {K : List ByteArray} (s : ByteArray) (hs : s.size ≤ 1000) {n : Nat} (σ : Store) (hN : ∃ N, σ.next = n + N + 2) (g0 : σ.get n = some (.oth (.map (nms K)))) (g1 : σ.get (n + 1) = some (.cells [.map n])) :
    ∃ σ', Run X (.call 119) [.str s, .ptr (n + 1) 0] σ = some (.ret, [.int .i64 (nameE K s)], σ') ∧ σ'.get n = some (.oth (.map (nms (addN K s)))) ∧ (∀ m, m < n → σ'.get m = σ.get m) ∧ σ'.get (n + 1) = some (.cells [.map n]) ∧ σ'.next = σ.next + 1 := by
  obtain ⟨N, hN⟩ := hN
  have hnp : freeL (stripL [.str s, .ptr (n + 1) 0]) = false := rfl
  have hl : (frame [.str s, .ptr (n + 1) 0] xf119.ntmps).length = 18 := rfl
  have h0 := frame_0 (.str s) [.ptr (n + 1) 0] xf119.ntmps
  have h1 := frame_1 (.str s) (.ptr (n + 1) 0) [] xf119.ntmps
  rw [call_np hX.h119 hnp]
  generalize frame [.str s, .ptr (n + 1) 0] xf119.ntmps = tm at *
  have u1 := w120 hX s hs
  have u2 := w71 hY
  have u3 := first2 hY
  have e : Ends (Run X (.code xf119.body) tm σ) .ret fun tm' σ' => tm'.length = 18 ∧ XOpd.eval tm' (.t 3) = .int .i64 (nameE K s) ∧ σ'.get n = some (.oth (.map (nms (addN K s)))) ∧ (∀ m, m < n → σ'.get m = σ.get m) ∧ σ'.get (n + 1) = some (.cells [.map n]) ∧ σ'.next = n + N + 3 := by
    have d1 : ¬ n = n + N + 1 := by omega
    have d2 : ¬ n = n + N + 2 := by omega
    have d3 : ¬ n + N + 2 = n := by omega
    have d4 : ¬ n + N + 1 = n := by omega
    have d5 : ¬ n + N + 2 = n + 1 := by omega
    have d6 : ¬ n + 1 = n + N + 2 := by omega
    have far : ∀ m, m < n → ¬ n = m ∧ ¬ n + 1 = m ∧ ¬ n + N + 2 = m := fun m hm => by omega
    unfold nameE addN
    cases c2 : hasT s K with
    | false =>
      have hf := find_no (s := s) (K := K) 0 c2
      have ha : nms K ++ [(.str s, .bool true)] = nms (K ++ [s]) := by simp [nms]
      cases c1 : nameB s <;> simp [xf119, hl, h0, h1, u1, u2, u3, hN, d1, d2, d3, d4, d5, d6, g0, g1, c1, hf, ha, firstNZ, xentries, keyOk, xload, AVal.cells, put_next, new_next, Store.get_new, Store.get_put, put_get, setR, only_get, merge_get', only_next, merge_next, upTo_self, upTo_one, merge_only, touch, wrote, isIn, okRec, hits, capsOf, xcaps, stripL, AVal.strip, freeL, AVal.free, fillR, chunks, mkV] <;> exact fun m hm => by rw [if_neg (by omega), if_neg (by omega)]
    | true =>
      obtain ⟨j, hf, hs'⟩ := find_yes (s := s) (K := K) 0 c2
      rw [Nat.zero_add] at hf
      cases c1 : nameB s <;> simp [xf119, hl, h0, h1, u1, u2, u3, hN, d1, d2, d3, d4, d5, d6, g0, g1, c1, hf, hs', firstNZ, xentries, keyOk, xload, AVal.cells, put_next, new_next, Store.get_new, Store.get_put, put_get, setR, only_get, merge_get', only_next, merge_next, upTo_self, upTo_one, merge_only, touch, wrote, isIn, okRec, hits, capsOf, xcaps, stripL, AVal.strip, freeL, AVal.free, fillR, chunks, mkV] <;> exact fun m hm => by rw [if_neg (by omega), if_neg (by omega)]
  obtain ⟨o1, p1, p2, p3, p4, p5, p6⟩ := out_of e
  refine ⟨_, ?_, p3, p4, p5, by rw [p6, hN]⟩
  rw [o1]
  generalize outT X xf119.body _ _ = tm3 at *
  generalize outS X xf119.body _ _ = σ3 at *
  simp [xf119, gc_all, xresult_one, xret_t, p2]
end
end Go.Proofs.Ytgijgcmcpgepaaa.Eng

/-
  Lists that grow by one.
-/
namespace Go.Proofs.Ytgijgcmcpgepaaa.Eng
set_option linter.unusedSimpArgs false
set_option linter.unusedVariables false
theorem out_append {e s bytes : Nat} {σ : Store} {m0 : Nat} {ys : List AVal} {v : AVal} (h : OutG e s σ m0 ys v) (hm : m0 ≤ σ.next) {x : AVal} (hx : x.cells.all AVal.one = true) (hs : 0 < s) (hb : (ys.length + 1) * bytes ≤ 1000000000000) (hl : ys.length + 1 ≤ 1000000000000) (tok : Option Nat) :
    ∃ v' σ', xappend σ e s bytes v (.list s [x] tok) = some (v', σ') ∧ OutG e s σ' m0 (ys ++ [x]) v' ∧ (∀ m, m < m0 → σ'.get m = σ.get m) ∧ σ.next ≤ σ'.next := by
  have ho : ones [x] = true := by simp [ones] at hx ⊢; exact hx
  rcases h with ⟨rfl, rfl⟩ | ⟨j, h1, h2, rfl, h4, h5⟩
  · refine ⟨.list s [x] (some σ.next), σ.new (.tok e s 1), ?_, .inr ⟨σ.next, hm, ?_, rfl, ?_, by simp⟩, fun m hm' => ?_, ?_⟩
    · simp only [List.length_nil, Nat.zero_add, Nat.one_mul] at hb hl
      simp [xappend, hs, ho, hb]
    · rw [new_next]; omega
    · rw [Store.get_new, put_get, if_pos rfl]; rfl
    · rw [Store.get_new, put_get, if_neg (by omega)]
    · rw [new_next]; omega
  · refine ⟨.list s (ys ++ [x]) (some j), σ.put j (.tok e s (ys.length + 1)), ?_, .inr ⟨j, h1, ?_, rfl, ?_, by simp⟩, fun m hm' => ?_, ?_⟩
    · simp [xappend, hs, ho, hb, hl, h4]
    · rw [put_next]; exact h2
    · rw [Store.get_put, put_get, if_pos rfl, List.length_append]; rfl
    · rw [Store.get_put, put_get, if_neg (by omega)]
    · exact Nat.le_refl _
theorem OutG.tok {e s : Nat} {σ : Store} {m0 : Nat} {ys : List AVal} {v : AVal} (h : OutG e s σ m0 ys v) (o : NObj) : OutG e s (σ.new o) m0 ys v :=
  h.far (fun m _ h2 => by rw [Store.get_new, put_get, if_neg (by omega)]) (by rw [new_next]; omega)
theorem OutG.len {e s : Nat} {σ : Store} {m0 : Nat} {ys : List AVal} {v : AVal} (h : OutG e s σ m0 ys v) : xlen v.down = some (.int .i64 ys.length) := by
  rcases h with ⟨rfl, rfl⟩ | ⟨j, _, _, rfl, _, _⟩ <;> rfl
/-- A list of numbers, as it is handed back. -/
theorem OutG.ints {e : Nat} {σ : Store} {m0 : Nat} {L : List Int} {v : AVal} (h : OutG e 1 σ m0 (ints L) v) : (v.strip = .list 1 (Go.Proofs.Ytgijgcmcpgepaaa.Eng.ints L) none ∨ (v.strip = .nils ∧ L = [])) ∧ v.strip.free = true := by
  have fr := ints_fr L
  rcases h with ⟨rfl, hl⟩ | ⟨j, _, _, rfl, _, _⟩
  · exact ⟨.inr ⟨rfl, by simpa [Go.Proofs.Ytgijgcmcpgepaaa.Eng.ints] using hl⟩, rfl⟩
  · have : (AVal.list 1 (Go.Proofs.Ytgijgcmcpgepaaa.Eng.ints L) (some j)).strip = .list 1 (Go.Proofs.Ytgijgcmcpgepaaa.Eng.ints L) none := by simp [AVal.strip, freeL_strip fr]
    rw [this]
    exact ⟨.inl rfl, by simp [AVal.free, fr]⟩
end Go.Proofs.Ytgijgcmcpgepaaa.Eng

/-
  DISPATCH: ranges, powers.
-/
namespace Go.Proofs.Ytgijgcmcpgepaaa.Eng
set_option linter.unusedSimpArgs false
set_option linter.unusedVariables false
section
variable {X : FuncId → Option XFunc} (hX : DxACode X)
include hX
omit hX in
theorem loop70 (lo hi : Int) (L : List Int) {v : AVal} (hv : IntV L v) (hn : L.length ≤ 1000000000) : ∀ (k i : Nat), i + k = L.length → ∀ (tm : List AVal) (σ : Store), tm.length = 24 → XOpd.eval tm (.t 0) = .int .i64 lo → XOpd.eval tm (.t 1) = .int .i64 hi → XOpd.eval tm (.t 9) = v → XOpd.eval tm (.t 10) = .int .i64 L.length → XOpd.eval tm (.t 11) = .int .i64 i →
    Ends (Run X (.code (.loop xf70l0)) tm σ) (if cw lo hi (L.drop i) = 0 then .exit 0 else .ret) fun tm' _ => tm'.length = 24 ∧ (cw lo hi (L.drop i) ≠ 0 → XOpd.eval tm' (.t 6) = .int .i64 2)
  | 0, i, hk, tm, σ, hl, h0, h1, h9, h10, h11 => by
    have hi' : i = L.length := by omega
    subst hi'
    rw [Run_loop]
    simp [xf70l0, hl, h10, h11, cw]
  | k + 1, i, hk, tm, σ, hl, h0, h1, h9, h10, h11 => by
    have hi' : i < L.length := by omega
    have hd : L.drop i = L[i] :: L.drop (i + 1) := List.drop_eq_getElem_cons hi'
    have hw : IntKind.i64.wrap ((i : Int) + 1) = ((i + 1 : Nat) : Int) := by rw [wrap_i64] <;> omega
    have h9' : XOpd.eval tm (.t 9) = .list 1 (ints L) none := by rw [h9]; exact hv.ne (by intro e; simp [e] at hi')
    rw [Run_loop, hd]
    cases he : win L[i] lo hi with
    | true =>
      have ih := loop70 lo hi L hv hn k (i + 1) (by omega)
      have c := win_iff.1 he
      have c1 : ¬ L[i] < lo := by omega
      have c2 : ¬ hi < L[i] := by omega
      simp only [cw, he, if_true]
      simp [xf70l0, hl, h0, h1, h9', h10, h11, hi', c1, c2, hw, ints, xload, AVal.cells]
      exact ih _ _ (by simp [hl]) (by simp [hl, h0]) (by simp [hl, h1]) (by simp [hl, h9]) (by simp [hl, h10]) (by simp [hl])
    | false =>
      simp only [cw, he, Bool.false_eq_true, if_false]
      have c := win_no he
      by_cases c1 : L[i] < lo
      · simp [xf70l0, hl, h0, h1, h9', h10, h11, hi', c1, ints, xload, AVal.cells]
      · have c2 : hi < L[i] := by omega
        simp [xf70l0, hl, h0, h1, h9', h10, h11, hi', c1, c2, ints, xload, AVal.cells]
theorem w70 (lo hi : Int) {L : List Int} {v : AVal} (h : IntV L v.strip) (hn : L.length ≤ 1000000000) (σ : Store) : Run X (.call 70) [.int .i64 lo, .int .i64 hi, v] σ = some (.ret, [.int .i64 (cw lo hi L)], σ) := by
  refine call3 (a := .int .i64 lo) (b := .int .i64 hi) (c := v) (v := .int .i64 (cw lo hi L)) hX.h70 rfl rfl h.free.1 (by decide) (fun tm hl h0 h1 h2 => ?_) rfl σ
  simp only [AVal.strip] at h0 h1
  replace hl : tm.length = 24 := hl
  obtain ⟨hln, hdn⟩ := h.len
  generalize v.strip = s at *
  have hL := fun tm σ h1 h2 h3 h4 h5 h6 => out_of (loop70 (X := X) lo hi L h hn L.length 0 (by omega) tm σ h1 h2 h3 h4 h5 h6)
  simp only [List.drop_zero] at hL
  unfold Gives
  rcases cw_two (lo := lo) (hi := hi) L with he | he
  · simp only [he, if_true] at hL
    simp (maxDischargeDepth := 9) [xf70, hl, h0, h1, h2, hL, he, hln, hdn]
  · have he' : ¬ cw lo hi L = 0 := by omega
    simp only [he', if_false] at hL
    simp (maxDischargeDepth := 9) [xf70, hl, h0, h1, h2, hL, he, he', hln, hdn]
theorem w76 {m : Int} (hm : IntKind.i64.wrap (-m) = -m) {L : List Int} {v : AVal} (h : IntV L v.strip) (hn : L.length ≤ 1000000000) (σ : Store) : Run X (.call 76) [.int .i64 m, v] σ = some (.ret, [.int .i64 (cw (-m) m L)], σ) := by
  have h' : IntV L v.strip.strip := by rw [h.free.2]; exact h
  have u := w70 hX (-m) m h' hn
  refine call2 (a := .int .i64 m) (b := v) (v := .int .i64 (cw (-m) m L)) hX.h76 rfl h.free.1 (by decide) (fun tm hl h0 h1 => ?_) rfl σ
  simp only [AVal.strip] at h0
  replace hl : tm.length = 10 := hl
  generalize v.strip = s at *
  unfold Gives
  simp [xf76, hl, h0, h1, hm, u]
theorem w101 {L : List Int} {v : AVal} (h : IntV L v) (hn : L.length ≤ 1000000000) (σ : Store) : Run X (.call 101) [v] σ = some (.ret, [.int .i64 (pwE L)], σ) := by
  have h' : IntV L v.strip := by rw [h.free.2]; exact h
  have u := fun σ => w76 hX (m := 1000000) (by decide) h' hn σ
  have u2 := w71 hX
  have u3 := first2 hX
  refine call1 (a := v) (v := .int .i64 (pwE L)) hX.h101 h'.free.1 (by decide) (fun tm hl h0 => ?_) rfl σ
  rw [h.free.2] at h0
  replace hl : tm.length = 11 := hl
  obtain ⟨hln, hdn⟩ := h.len
  have fr := h.free
  unfold Gives pwE
  by_cases c : L.length ≤ 300
  · have c' : (L.length : Int) ≤ 300 := by omega
    rcases cw_two (lo := -1000000) (hi := 1000000) L with he | he <;>
      simp [xf101, hl, h0, u, u2, u3, fr, hln, hdn, c, c', he, firstNZ, Store.empty, Store.new, Store.put, Store.get, look, putL, setR, Store.only, Store.merge, touch, wrote, upTo, isIn, okRec, hits, capsOf, xcaps, stripL, AVal.strip, freeL, AVal.free, fillR, chunks, mkV, List.filter]
  · have c' : ¬ (L.length : Int) ≤ 300 := by omega
    simp [xf101, hl, h0, u, u2, u3, fr, hln, hdn, c, c', firstNZ, Store.empty, Store.new, Store.put, Store.get, look, putL, setR, Store.only, Store.merge, touch, wrote, upTo, isIn, okRec, hits, capsOf, xcaps, stripL, AVal.strip, freeL, AVal.free, fillR, chunks, mkV, List.filter]
omit hX in
theorem loop49 (hW : ∀ (a b c : Int) σ, Run X (.call 33) [.int .i64 a, .int .i64 b, .int .i64 c] σ = some (.ret, [.bool (win a b c)], σ)) (L : List Int) {v : AVal} (hv : IntV L v) (hn : L.length ≤ 1000000000) : ∀ (k i : Nat), i + k = L.length → ∀ (tm : List AVal) (σ : Store), tm.length = 19 → XOpd.eval tm (.t 0) = v → XOpd.eval tm (.t 3) = .int .i64 i →
    Ends (Run X (.code (.loop xf49l0)) tm σ) (if cw (-1000000) 1000000 (L.drop i) = 0 then .exit 0 else .ret) fun tm' _ => tm'.length = 19 ∧ (cw (-1000000) 1000000 (L.drop i) ≠ 0 → XOpd.eval tm' (.t 2) = .int .i64 2)
  | 0, i, hk, tm, σ, hl, h0, h3 => by
    have hi' : i = L.length := by omega
    subst hi'
    obtain ⟨hln, hdn⟩ := hv.len
    rw [Run_loop]
    simp [xf49l0, hl, h0, h3, hln, hdn, cw]
  | k + 1, i, hk, tm, σ, hl, h0, h3 => by
    have hi' : i < L.length := by omega
    have hd : L.drop i = L[i] :: L.drop (i + 1) := List.drop_eq_getElem_cons hi'
    have hw : IntKind.i64.wrap ((i : Int) + 1) = ((i + 1 : Nat) : Int) := by rw [wrap_i64] <;> omega
    have h0' : XOpd.eval tm (.t 0) = .list 1 (ints L) none := by rw [h0]; exact hv.ne (by intro e; simp [e] at hi')
    rw [Run_loop, hd]
    cases he : win L[i] (-1000000) 1000000 with
    | true =>
      have ih := loop49 hW L hv hn k (i + 1) (by omega)
      simp only [cw, he, if_true]
      simp [xf49l0, hl, h0', h3, hi', hW, he, hw, ints, xload, xlen, AVal.cells]
      exact ih _ _ (by simp [hl]) (by simp [hl, h0]) (by simp [hl])
    | false =>
      simp only [cw, he, Bool.false_eq_true, if_false]
      simp [xf49l0, hl, h0', h3, hi', hW, he, ints, xload, xlen, AVal.cells]
theorem w49 {L : List Int} {v : AVal} (h : IntV L v) (hn : L.length ≤ 1000000000) (σ : Store) : Run X (.call 49) [v] σ = some (.ret, [.int .i64 (pwE L)], σ) := by
  refine call1 (a := v) (v := .int .i64 (pwE L)) hX.h49 (by rw [h.free.2]; exact h.free.1) (by decide) (fun tm hl h0 => ?_) rfl σ
  rw [h.free.2] at h0
  replace hl : tm.length = 19 := hl
  obtain ⟨hln, hdn⟩ := h.len
  have hL := fun tm σ h1 h2 h3 => out_of (loop49 (X := X) (w33 hX) L h hn L.length 0 (by omega) tm σ h1 h2 h3)
  simp only [List.drop_zero] at hL
  have c0 : ((0 : Nat) : Int) = 0 := rfl
  simp only [c0] at hL
  unfold Gives pwE
  by_cases c : L.length ≤ 300
  · have c' : ¬ (300 : Int) < L.length := by omega
    rcases cw_two (lo := -1000000) (hi := 1000000) L with he | he
    · simp only [he, if_true] at hL
      simp (maxDischargeDepth := 9) [xf49, hl, h0, hL, he, hln, hdn, c, c']
    · have he' : ¬ cw (-1000000) 1000000 L = 0 := by omega
      simp only [he', if_false] at hL
      simp (maxDischargeDepth := 9) [xf49, hl, h0, hL, he, he', hln, hdn, c, c']
  · have c' : (300 : Int) < L.length := by omega
    simp [xf49, hl, h0, hln, hdn, c, c']
theorem w48 (s r : Int) (σ : Store) : Run X (.call 48) [.int .i64 s, .int .i64 r] σ = some (.ret, [.int .i64 (rmE s r)], σ) := by
  refine call2 (X := X) (a := .int .i64 s) (b := .int .i64 r) (v := .int .i64 (rmE s r)) hX.h48 rfl rfl (by decide) (fun tm hl h0 h1 => ?_) rfl σ
  simp only [AVal.strip, stripL] at h0 h1
  replace hl : tm.length = 13 := hl
  unfold Gives
  unfold rmE
  cases c1 : win s (-1000000) 1000000 <;> cases c2 : win r 0 1000000 <;> simp [xf48, hl, h0, h1, w33 hX, c1, c2]
end
end Go.Proofs.Ytgijgcmcpgepaaa.Eng

/-
  DISPATCH: plants, tasks and plans; mathematics.
-/
namespace Go.Proofs.Ytgijgcmcpgepaaa.Eng
set_option linter.unusedSimpArgs false
set_option linter.unusedVariables false
/-! Lists of what has no address. -/
def LV {α : Type} (s : Nat) (enc : α → AVal) (L : List α) (v : AVal) : Prop := v = .list s (L.map enc) none ∨ (v = .nils ∧ L = [])
section
variable {α : Type} {s : Nat} {enc : α → AVal}
theorem fr_map (he : ∀ a, (enc a).free = true) (L : List α) : freeL (L.map enc) = true := by
  induction L with
  | nil => rfl
  | cons e l ih => simpa [freeL, he e] using ih
theorem LV.free (he : ∀ a, (enc a).free = true) {L : List α} {v : AVal} (h : LV s enc L v) : v.free = true ∧ v.strip = v := by
  rcases h with rfl | ⟨rfl, _⟩
  · have fr := fr_map he L
    exact ⟨by simp [AVal.free, fr], by simp [AVal.strip, freeL_strip fr]⟩
  · exact ⟨rfl, rfl⟩
theorem LV.len {L : List α} {v : AVal} (h : LV s enc L v) : xlen v = some (.int .i64 L.length) ∧ v.down = v := by
  rcases h with rfl | ⟨rfl, rfl⟩ <;> exact ⟨by simp, rfl⟩
theorem LV.ne {L : List α} {v : AVal} (h : LV s enc L v) (hn : L ≠ []) : v = .list s (L.map enc) none := by
  rcases h with rfl | ⟨_, rfl⟩
  · rfl
  · exact absurd rfl hn
end
/-- The first error of a list's items, and its index. -/
def fiE {α : Type} (f : α → Int) : List α → Nat → Nat × Int
  | [], _ => (0, 0)
  | a :: l, i => if f a = 0 then fiE f l (i + 1) else (i, f a)
theorem fiE_zero {α : Type} {f : α → Int} : ∀ {l : List α} {i : Nat}, (fiE f l i).2 = 0 → (fiE f l i).1 = 0
  | [], _, _ => rfl
  | a :: l, i, h => by
    unfold fiE at h ⊢
    by_cases c : f a = 0
    · simp only [c, if_true] at h ⊢; exact fiE_zero h
    · simp [c] at h
theorem fiE_all {α : Type} {f : α → Int} : ∀ {l : List α} {i : Nat}, (fiE f l i).2 = 0 → ∀ a, a ∈ l → f a = 0
  | [], _, _, a, ha => by cases ha
  | b :: l, i, h, a, ha => by
    unfold fiE at h
    by_cases c : f b = 0
    · simp only [c, if_true] at h
      rcases List.mem_cons.1 ha with rfl | ha
      · exact c
      · exact fiE_all h a ha
    · simp [c] at h
/-- A mode, an hour. -/
structure Md where
  nm : ByteArray
  ch : Int
  en : Int
  st : Int
def Md.enc (m : Md) : AVal := .agg [.str m.nm, .int .i64 m.ch, .int .i64 m.en, .int .i64 m.st]
theorem Md.fr (m : Md) : m.enc.free = true := rfl
structure Hour where
  buy : Int
  sell : Int
  inf : Int
def Hour.enc (h : Hour) : AVal := .agg [.int .i64 h.buy, .int .i64 h.sell, .int .i64 h.inf]
theorem Hour.fr (h : Hour) : h.enc.free = true := rfl
def cnt (n m : Nat) : Int := firstNZ [if 0 < n then 0 else 10, if n ≤ m then 0 else 8]
end Go.Proofs.Ytgijgcmcpgepaaa.Eng

/-
  DISPATCH: modes that are checked.
-/
namespace Go.Proofs.Ytgijgcmcpgepaaa.Eng
set_option linter.unusedSimpArgs false
set_option linter.unusedVariables false
/-- The error of a mode behind names. -/
def modeE (K : List ByteArray) (m : Md) : Int := firstNZ [nameE K m.nm, cw (-10000) 10000 [m.ch, m.en], cw 0 10000 [m.st]]
theorem reach_nm {σ : Store} {n : Nat} {K : List ByteArray} (g0 : σ.get n = some (.oth (.map (nms K)))) (g1 : σ.get (n + 1) = some (.cells [.map n])) : reach σ 10000 [n + 1] [] = [n, n + 1] := by
  have e1 : ∀ K : List ByteArray, namesL ((nms K).map (·.1)) = [] := fun K => by
    induction K with
    | nil => rfl
    | cons a l ih => simpa [nms, namesL, AVal.names] using ih
  have e2 : ∀ K : List ByteArray, namesL ((nms K).map (·.2)) = [] := fun K => by
    induction K with
    | nil => rfl
    | cons a l ih => simpa [nms, namesL, AVal.names] using ih
  have h1 : isIn [] (n + 1) = false := rfl
  have h2 : isIn [n + 1] n = false := by simp [isIn]
  rw [show (10000 : Nat) = 9997 + 1 + 1 + 1 from rfl]
  rw [reach, if_neg (by simp [h1]), g1]
  simp only [NObj.names, namesL, AVal.names, List.append_nil]
  rw [reach, if_neg (by simp [h2]), g0]
  simp only [NObj.names, e1, e2, List.append_nil]
  rfl
section
variable {X : FuncId → Option XFunc} (hX : DxBCode X)
include hX
theorem cw2 {a b lo hi : Int} (t : Option Nat) (σ : Store) : Run X (.call 70) [.int .i64 lo, .int .i64 hi, .list 1 [.int .i64 a, .int .i64 b] t] σ = some (.ret, [.int .i64 (cw lo hi [a, b])], σ) :=
  w70 hX.dxA lo hi (L := [a, b]) (v := .list 1 [.int .i64 a, .int .i64 b] t) (IntV.list _) (by simp) σ
theorem cw1 {a lo hi : Int} (t : Option Nat) (σ : Store) : Run X (.call 70) [.int .i64 lo, .int .i64 hi, .list 1 [.int .i64 a] t] σ = some (.ret, [.int .i64 (cw lo hi [a])], σ) :=
  w70 hX.dxA lo hi (L := [a]) (v := .list 1 [.int .i64 a] t) (IntV.list _) (by simp) σ
theorem cs1 {a : Int} (t : Option Nat) (σ : Store) : Run X (.call 76) [.int .i64 10000, .list 1 [.int .i64 a] t] σ = some (.ret, [.int .i64 (cw (-10000) 10000 [a])], σ) :=
  w76 hX.dxA (m := 10000) (by decide) (L := [a]) (v := .list 1 [.int .i64 a] t) (IntV.list _) (by simp) σ
theorem cs2 {a b : Int} (t : Option Nat) (σ : Store) : Run X (.call 76) [.int .i64 10000, .list 1 [.int .i64 a, .int .i64 b] t] σ = some (.ret, [.int .i64 (cw (-10000) 10000 [a, b])], σ) :=
  w76 hX.dxA (m := 10000) (by decide) (L := [a, b]) (v := .list 1 [.int .i64 a, .int .i64 b] t) (IntV.list _) (by simp) σ
theorem cs3 {a b c : Int} (t : Option Nat) (σ : Store) : Run X (.call 76) [.int .i64 10000, .list 1 [.int .i64 a, .int .i64 b, .int .i64 c] t] σ = some (.ret, [.int .i64 (cw (-10000) 10000 [a, b, c])], σ) :=
  w76 hX.dxA (m := 10000) (by decide) (L := [a, b, c]) (v := .list 1 [.int .i64 a, .int .i64 b, .int .i64 c] t) (IntV.list _) (by simp) σ
set_option maxHeartbeats 8000000 in
theorem w75 {K : List ByteArray} (m : Md) (hs : m.nm.size ≤ 1000) {n : Nat} (σ : Store) (hN : ∃ N, σ.next = n + N + 3) (g0 : σ.get n = some (.oth (.map (nms K)))) (g1 : σ.get (n + 1) = some (.cells [.map n])) (g2 : σ.get (n + 2) = some (.cells [.fn 119 [] [.ptr (n + 1) 0]])) :
    ∃ σ', Run X (.call 75) [m.enc, .ptr (n + 2) 0] σ = some (.ret, [.int .i64 (modeE K m)], σ') ∧ σ'.get n = some (.oth (.map (nms (addN K m.nm)))) ∧ (∀ j, j < n → σ'.get j = σ.get j) ∧ σ'.get (n + 1) = some (.cells [.map n]) ∧ σ'.get (n + 2) = some (.cells [.fn 119 [] [.ptr (n + 1) 0]]) ∧ σ.next ≤ σ'.next := by
  obtain ⟨N, hN⟩ := hN
  have hnp : freeL (stripL [m.enc, .ptr (n + 2) 0]) = false := rfl
  have hl : (frame [m.enc, .ptr (n + 2) 0] xf75.ntmps).length = 20 := rfl
  have h0 := frame_0 m.enc [.ptr (n + 2) 0] xf75.ntmps
  have h1 := frame_1 m.enc (.ptr (n + 2) 0) [] xf75.ntmps
  rw [call_np hX.h75 hnp]
  generalize frame [m.enc, .ptr (n + 2) 0] xf75.ntmps = tm at *
  obtain ⟨s, ch, en, st⟩ := m
  simp only [Md.enc] at *
  have q0 : (σ.new (.cells [.str s, .int .i64 ch, .int .i64 en, .int .i64 st])).get n = some (.oth (.map (nms K))) := by rw [Store.get_new, put_get, if_neg (by omega)]; exact g0
  have q1 : (σ.new (.cells [.str s, .int .i64 ch, .int .i64 en, .int .i64 st])).get (n + 1) = some (.cells [.map n]) := by rw [Store.get_new, put_get, if_neg (by omega)]; exact g1
  have hr := reach_nm q0 q1
  obtain ⟨τ, u, k1, k2, k3, k4⟩ := w119 hX.dxN hX.dxA (K := K) s hs (n := n) ((σ.new (.cells [.str s, .int .i64 ch, .int .i64 en, .int .i64 st])).only [n, n + 1]) ⟨N + 2, by rw [only_next, new_next, hN]; omega⟩ (by rw [only_get, if_pos (by simp [isIn])]; exact q0) (by rw [only_get, if_pos (by simp [isIn])]; exact q1)
  rw [only_next, new_next, hN] at k4
  have u2 := cs2 hX (a := ch) (b := en)
  have u1 := cw1 hX (a := st) (lo := 0) (hi := 10000)
  have u3 := first3 hX.dxA
  have e : Ends (Run X (.code xf75.body) tm σ) .ret fun tm' σ' => tm'.length = 20 ∧ XOpd.eval tm' (.t 3) = .int .i64 (modeE K ⟨s, ch, en, st⟩) ∧ σ'.get n = some (.oth (.map (nms (addN K s)))) ∧ (∀ j, j < n → σ'.get j = σ.get j) ∧ σ'.get (n + 1) = some (.cells [.map n]) ∧ σ'.get (n + 2) = some (.cells [.fn 119 [] [.ptr (n + 1) 0]]) ∧ n + N + 3 ≤ σ'.next := by
    unfold modeE
    have z1 : ¬ n = n + N + 1 := by omega
    have z2 : ¬ n + N + 1 = n := by omega
    have z3 : ¬ n = n + N + 2 := by omega
    have z4 : ¬ n + N + 2 = n := by omega
    have z5 : ¬ n = n + N + 3 := by omega
    have z6 : ¬ n + N + 3 = n := by omega
    have z7 : ¬ n = n + N + 4 := by omega
    have z8 : ¬ n + N + 4 = n := by omega
    have z9 : ¬ n = n + N + 5 := by omega
    have z10 : ¬ n + N + 5 = n := by omega
    have z11 : ¬ n = n + N + 6 := by omega
    have z12 : ¬ n + N + 6 = n := by omega
    have z13 : ¬ n = n + N + 7 := by omega
    have z14 : ¬ n + N + 7 = n := by omega
    have z15 : ¬ n = n + N + 8 := by omega
    have z16 : ¬ n + N + 8 = n := by omega
    have z17 : ¬ n = n + N + 9 := by omega
    have z18 : ¬ n + N + 9 = n := by omega
    have z19 : ¬ n + 1 = n + N + 2 := by omega
    have z20 : ¬ n + N + 2 = n + 1 := by omega
    have z21 : ¬ n + 1 = n + N + 3 := by omega
    have z22 : ¬ n + N + 3 = n + 1 := by omega
    have z23 : ¬ n + 1 = n + N + 4 := by omega
    have z24 : ¬ n + N + 4 = n + 1 := by omega
    have z25 : ¬ n + 1 = n + N + 5 := by omega
    have z26 : ¬ n + N + 5 = n + 1 := by omega
    have z27 : ¬ n + 1 = n + N + 6 := by omega
    have z28 : ¬ n + N + 6 = n + 1 := by omega
    have z29 : ¬ n + 1 = n + N + 7 := by omega
    have z30 : ¬ n + N + 7 = n + 1 := by omega
    have z31 : ¬ n + 1 = n + N + 8 := by omega
    have z32 : ¬ n + N + 8 = n + 1 := by omega
    have z33 : ¬ n + 1 = n + N + 9 := by omega
    have z34 : ¬ n + N + 9 = n + 1 := by omega
    have z35 : ¬ n + 2 = n + N + 3 := by omega
    have z36 : ¬ n + N + 3 = n + 2 := by omega
    have z37 : ¬ n + 2 = n + N + 4 := by omega
    have z38 : ¬ n + N + 4 = n + 2 := by omega
    have z39 : ¬ n + 2 = n + N + 5 := by omega
    have z40 : ¬ n + N + 5 = n + 2 := by omega
    have z41 : ¬ n + 2 = n + N + 6 := by omega
    have z42 : ¬ n + N + 6 = n + 2 := by omega
    have z43 : ¬ n + 2 = n + N + 7 := by omega
    have z44 : ¬ n + N + 7 = n + 2 := by omega
    have z45 : ¬ n + 2 = n + N + 8 := by omega
    have z46 : ¬ n + N + 8 = n + 2 := by omega
    have z47 : ¬ n + 2 = n + N + 9 := by omega
    have z48 : ¬ n + N + 9 = n + 2 := by omega
    simp [xf75, hl, h0, h1, hN, g2, hr, u, k1, k3, k4, u1, u2, u3, z1, z2, z3, z4, z5, z6, z7, z8, z9, z10, z11, z12, z13, z14, z15, z16, z17, z18, z19, z20, z21, z22, z23, z24, z25, z26, z27, z28, z29, z30, z31, z32, z33, z34, z35, z36, z37, z38, z39, z40, z41, z42, z43, z44, z45, z46, z47, z48, namesL, AVal.names, xload, AVal.cells, AVal.one, put_next, new_next, Store.get_new, Store.get_put, put_get, setR, only_get, merge_get', only_next, merge_next, upTo_self, upTo_one, merge_only, touch, wrote, isIn, okRec, hits, capsOf, xcaps, stripL, AVal.strip, freeL, AVal.free, fillR, chunks, mkV]
    exact fun j hj => by rw [if_neg (by omega), if_neg (by omega), if_neg (by omega), if_neg (by omega), if_neg (by omega)]
  obtain ⟨o1, p1, p2, p3, p4, p5, p6, p7⟩ := out_of e
  refine ⟨_, ?_, p3, p4, p5, p6, by rw [hN]; exact p7⟩
  rw [o1]
  generalize outT X xf75.body _ _ = tm3 at *
  generalize outS X xf75.body _ _ = σ3 at *
  simp [xf75, gc_all, xresult_one, xret_t, p2]
omit hX in
/-- The first mode that has an error, behind names: its index, its error. -/
def mdF (K : List ByteArray) : List Md → Nat → Nat × Int
  | [], _ => (0, 0)
  | m :: l, i => if modeE K m = 0 then mdF (addN K m.nm) l (i + 1) else (i, modeE K m)
omit hX in
theorem mdF_zero : ∀ {l : List Md} {i : Nat} {K : List ByteArray}, (mdF K l i).2 = 0 → (mdF K l i).1 = 0
  | [], _, _, _ => rfl
  | s :: l, i, K, h => by
    unfold mdF at h ⊢
    by_cases c : modeE K s = 0
    · simp only [c, if_true] at h ⊢; exact mdF_zero h
    · simp [c] at h
omit hX in
def mds (R : List Md) : List AVal := R.map Md.enc
set_option maxHeartbeats 4000000 in
theorem loop74 (L : List Md) {v : AVal} (hv : LV 4 Md.enc L v) (hn : L.length ≤ 1000000000) (hs : ∀ s, s ∈ L → s.nm.size ≤ 1000) {n : Nat} : ∀ (k i : Nat), i + k = L.length → ∀ (K : List ByteArray) (tm : List AVal) (σ : Store), tm.length = 24 → XOpd.eval tm (.t 1) = .fn 75 [] [.ptr (n + 2) 0] → XOpd.eval tm (.t 9) = v → XOpd.eval tm (.t 10) = .int .i64 L.length → XOpd.eval tm (.t 11) = .int .i64 i → (∃ N, σ.next = n + N + 3) → σ.get n = some (.oth (.map (nms K))) → σ.get (n + 1) = some (.cells [.map n]) → σ.get (n + 2) = some (.cells [.fn 119 [] [.ptr (n + 1) 0]]) →
    Ends (Run X (.code (.loop xf74l0)) tm σ) (if (mdF K (L.drop i) i).2 = 0 then .exit 0 else .ret) fun tm' σ' => tm'.length = 24 ∧ ((mdF K (L.drop i) i).2 ≠ 0 → XOpd.eval tm' (.t 4) = .int .i64 (mdF K (L.drop i) i).1 ∧ XOpd.eval tm' (.t 5) = .int .i64 (mdF K (L.drop i) i).2) ∧ (∀ m, m < n → σ'.get m = σ.get m) ∧ σ.next ≤ σ'.next
  | 0, i, hk, K, tm, σ, hl, h1, h9, h10, h11, hN, g0, g1, g2 => by
    have hi : i = L.length := by omega
    subst hi
    rw [Run_loop]
    simp [xf74l0, hl, h1, h10, h11, mdF]
  | k + 1, i, hk, K, tm, σ, hl, h1, h9, h10, h11, ⟨N, hN⟩, g0, g1, g2 => by
    have hi : i < L.length := by omega
    have hd : L.drop i = L[i] :: L.drop (i + 1) := List.drop_eq_getElem_cons hi
    have hw : IntKind.i64.wrap ((i : Int) + 1) = ((i + 1 : Nat) : Int) := by rw [wrap_i64] <;> omega
    have h9' : XOpd.eval tm (.t 9) = .list 4 (L.map Md.enc) none := by rw [h9]; exact hv.ne (by intro e; simp [e] at hi)
    have hsz := hs L[i] (by simp)
    obtain ⟨s, hm⟩ : ∃ s, s = L[i] := ⟨_, rfl⟩
    rw [← hm] at hsz
    have gm : ∀ h, (L.map Md.enc)[i]'h = .agg [.str s.nm, .int .i64 s.ch, .int .i64 s.en, .int .i64 s.st] := fun h => by rw [List.getElem_map, ← hm]; rfl
    have q : ∀ m, m < σ.next → ((σ.new (.cells [.str ⟨#[]⟩, .int .i64 0, .int .i64 0, .int .i64 0])).put (n + N + 3) (.cells [.str s.nm, .int .i64 s.ch, .int .i64 s.en, .int .i64 s.st])).get m = σ.get m := fun m hm => by
      rw [Store.get_put, put_get, if_neg (by omega), Store.get_new, put_get, if_neg (by omega)]
    obtain ⟨σ1, u, k1, k2, k3, k4, k5⟩ := w75 hX (K := K) s hsz (n := n) ((σ.new (.cells [.str ⟨#[]⟩, .int .i64 0, .int .i64 0, .int .i64 0])).put (n + N + 3) (.cells [.str s.nm, .int .i64 s.ch, .int .i64 s.en, .int .i64 s.st])) ⟨N + 1, by rw [put_next, new_next, hN]; omega⟩ (by rw [q _ (by omega)]; exact g0) (by rw [q _ (by omega)]; exact g1) (by rw [q _ (by omega)]; exact g2)
    simp only [Md.enc] at u
    rw [put_next, new_next] at k5
    rw [Run_loop, hd, ← hm]
    have hlm : (L.map Md.enc).length = L.length := by simp
    by_cases he : modeE K s = 0
    · have key : Ends (Run X (.code xf74l0) tm σ) .normal fun tm' σ' => tm'.length = 24 ∧ XOpd.eval tm' (.t 1) = .fn 75 [] [.ptr (n + 2) 0] ∧ XOpd.eval tm' (.t 9) = v ∧ XOpd.eval tm' (.t 10) = .int .i64 L.length ∧ XOpd.eval tm' (.t 11) = .int .i64 ((i + 1 : Nat) : Int) ∧ σ' = σ1 := by
        rw [he] at u
        rw [hv.ne (show L ≠ [] by intro e; simp [e] at hi)]
        generalize L.map Md.enc = A at *
        simp [xf74l0, hl, h1, h9', h10, h11, hN, hi, hlm, hw, gm, u, xload, AVal.cells, AVal.one, put_next, new_next, Store.get_new, Store.get_put, put_get, setR, only_get, merge_get', only_next, merge_next, upTo_self, upTo_one, merge_only, touch, wrote, isIn, okRec, hits, capsOf, xcaps, stripL, AVal.strip, freeL, AVal.free, fillR, chunks, mkV]
      obtain ⟨o1, p1, p2, p3, p4, p5, p6⟩ := out_of key
      simp only [mdF, he, if_true]
      rw [o1, thenC_normal]
      rw [← p6] at k1 k2 k3 k4 k5
      obtain ⟨tmx, σx, e1, e2, e3, e4, e5⟩ := loop74 L hv hn hs k (i + 1) (by omega) (addN K s.nm) _ _ p1 p2 p3 p4 p5 ⟨(outS X xf74l0 tm σ).next - n - 3, by omega⟩ k1 k3 k4
      exact ⟨tmx, σx, e1, e2, e3, fun m hm' => by rw [e4 m hm', k2 m hm', q m (by omega)], by omega⟩
    · have key : Ends (Run X (.code xf74l0) tm σ) .ret fun tm' σ' => tm'.length = 24 ∧ XOpd.eval tm' (.t 4) = .int .i64 (i : Int) ∧ XOpd.eval tm' (.t 5) = .int .i64 (modeE K s) ∧ σ' = σ1 := by
        generalize L.map Md.enc = A at *
        simp [xf74l0, hl, h1, h9', h10, h11, hN, hi, hlm, gm, u, he, xload, AVal.cells, AVal.one, put_next, new_next, Store.get_new, Store.get_put, put_get, setR, only_get, merge_get', only_next, merge_next, upTo_self, upTo_one, merge_only, touch, wrote, isIn, okRec, hits, capsOf, xcaps, stripL, AVal.strip, freeL, AVal.free, fillR, chunks, mkV]
      obtain ⟨o1, p1, p2, p3, p4⟩ := out_of key
      simp only [mdF, he, if_false]
      rw [o1, thenC_ret]
      refine ⟨_, _, rfl, p1, fun _ => ⟨p2, p3⟩, fun m hm' => ?_, ?_⟩
      · rw [p4, k2 m hm', q m (by omega)]
      · rw [p4]; omega
theorem w74 {L : List Md} {v : AVal} (hv : LV 4 Md.enc L v) (hn : L.length ≤ 1000000000) (hs : ∀ s, s ∈ L → s.nm.size ≤ 1000) {n : Nat} {K : List ByteArray} (σ : Store) (hN : ∃ N, σ.next = n + N + 3) (g0 : σ.get n = some (.oth (.map (nms K)))) (g1 : σ.get (n + 1) = some (.cells [.map n])) (g2 : σ.get (n + 2) = some (.cells [.fn 119 [] [.ptr (n + 1) 0]])) :
    ∃ σ', Run X (.call 74) [v, .fn 75 [] [.ptr (n + 2) 0]] σ = some (.ret, [.tup [.int .i64 (mdF K L 0).1, .int .i64 (mdF K L 0).2]], σ') ∧ (∀ m, m < n → σ'.get m = σ.get m) ∧ σ.next ≤ σ'.next := by
  have hnp : freeL (stripL [v, .fn 75 [] [.ptr (n + 2) 0]]) = false := by simp [stripL, AVal.strip, freeL, AVal.free]
  have hl : (frame [v, .fn 75 [] [.ptr (n + 2) 0]] xf74.ntmps).length = 24 := rfl
  have h0 := frame_0 v [.fn 75 [] [.ptr (n + 2) 0]] xf74.ntmps
  have h1 := frame_1 v (.fn 75 [] [.ptr (n + 2) 0]) [] xf74.ntmps
  obtain ⟨hln, hdn⟩ := hv.len
  rw [call_np hX.h74 hnp]
  generalize frame [v, .fn 75 [] [.ptr (n + 2) 0]] xf74.ntmps = tm at *
  have eP : Ends (Run X (.code (XCode.cutP 1 xf74.body)) tm σ) .normal fun tm' σ' => tm'.length = 24 ∧ XOpd.eval tm' (.t 1) = .fn 75 [] [.ptr (n + 2) 0] ∧ XOpd.eval tm' (.t 9) = v ∧ XOpd.eval tm' (.t 10) = .int .i64 L.length ∧ XOpd.eval tm' (.t 11) = .int .i64 ((0 : Nat) : Int) ∧ σ' = σ := by
    simp [xf74, XCode.cutP, hl, h0, h1, hln, hdn]
  obtain ⟨o1, p1, p2, p3, p4, p5, p6⟩ := out_of eP
  rw [← p6] at hN g0 g1 g2
  obtain ⟨q1, q2, q3, q4, q5⟩ := out_of (loop74 hX L hv hn hs (n := n) L.length 0 (by omega) K _ _ p1 p2 p3 p4 p5 hN g0 g1 g2)
  simp only [List.drop_zero] at q1 q3
  refine ⟨_, ?_, fun m hm => (q4 m hm).trans (by rw [p6]), Nat.le_trans (Nat.le_of_eq (congrArg Store.next p6.symm)) q5⟩
  rw [Run_cut 1, o1, thenC_normal, show XCode.cutB 1 xf74.body = .block 0 (.loop xf74l0) from rfl, Run_block, q1]
  generalize outT X (.loop xf74l0) _ _ = tm3 at *
  generalize outS X (.loop xf74l0) _ _ = σ3 at *
  by_cases he : (mdF K L 0).2 = 0
  · have e1 : (mdF K L 0).1 = 0 := mdF_zero he
    simp [xf74, XCode.cutR, q2, he, e1, gc_all, xresult, xrets, xret_t]
  · obtain ⟨r1, r2⟩ := q3 he
    simp [xf74, XCode.cutR, q2, he, r1, r2, gc_all, xresult, xrets, xret_t]
end
end Go.Proofs.Ytgijgcmcpgepaaa.Eng

/-
  DISPATCH: plants and tasks that are checked.
-/
namespace Go.Proofs.Ytgijgcmcpgepaaa.Eng
set_option linter.unusedSimpArgs false
set_option linter.unusedVariables false
def plate (lo hi : Int) (n : Nat) : Int := firstNZ [cw 0 1000000 [lo, hi], if lo ≤ hi then 0 else 9, if IntKind.i64.wrap (hi - lo) < 40 then 0 else 8, cnt n 5]
def plC (lo hi : Int) (R : List Md) : Nat × Int := if plate lo hi R.length = 0 then mdF [] R 0 else (0, plate lo hi R.length)
def hourE (h : Hour) : Int := firstNZ [cw (-10000) 10000 [h.buy, h.sell, h.inf], if h.sell ≤ h.buy then 0 else 9]
/-- A task's numbers. -/
structure Tk where
  vol : Int
  mode : Int
  worth : Int
def ixE (a : Int) (n : Nat) : Int := if 0 ≤ a ∧ a < n then 0 else 6
def tkate (lo hi : Int) (R : List Md) (t : Tk) (n : Nat) : Int := firstNZ [(plC lo hi R).2, cw lo hi [t.vol], ixE t.mode R.length, cw (-10000) 10000 [t.worth], cnt n 10]
def tkC (lo hi : Int) (R : List Md) (t : Tk) (H : List Hour) : Nat × Int := if tkate lo hi R t H.length = 0 then fiE hourE H 0 else (0, tkate lo hi R t H.length)
section
variable {X : FuncId → Option XFunc} (hX : DxBCode X)
include hX
theorem w72 (n m : Nat) (σ : Store) : Run X (.call 72) [.int .i64 (n : Int), .int .i64 (m : Int)] σ = some (.ret, [.int .i64 (cnt n m)], σ) := by
  refine call2 (X := X) (a := .int .i64 (n : Int)) (b := .int .i64 (m : Int)) (v := .int .i64 (cnt n m)) hX.h72 rfl rfl (by decide) (fun tm hl h0 h1 => ?_) rfl σ
  simp only [AVal.strip, stripL] at h0 h1
  replace hl : tm.length = 14 := hl
  unfold Gives
  have u := w71 hX.dxA
  have u2 := first2 hX.dxA
  unfold cnt
  by_cases c1 : 0 < n <;> by_cases c2 : n ≤ m <;> simp [xf72, hl, h0, h1, u, u2, c1, c2, Store.empty, Store.new, Store.put, Store.get, look, putL, setR, Store.only, Store.merge, touch, wrote, upTo, isIn, okRec, hits, capsOf, xcaps, stripL, AVal.strip, freeL, AVal.free, fillR, chunks, mkV, List.filter]
theorem w77 (a : Int) (n : Nat) (σ : Store) : Run X (.call 77) [.int .i64 a, .int .i64 (n : Int)] σ = some (.ret, [.int .i64 (ixE a n)], σ) := by
  refine call2 (X := X) (a := .int .i64 a) (b := .int .i64 (n : Int)) (v := .int .i64 (ixE a n)) hX.h77 rfl rfl (by decide) (fun tm hl h0 h1 => ?_) rfl σ
  simp only [AVal.strip, stripL] at h0 h1
  replace hl : tm.length = 13 := hl
  unfold Gives
  have u := w71 hX.dxA
  unfold ixE
  by_cases c1 : 0 ≤ a <;> by_cases c2 : a < n <;> simp [xf77, hl, h0, h1, u, c1, c2]
theorem w73 (σ : Store) : Run X (.callK 73) [] σ = some (.ret, [.fn 119 [] [.ptr (σ.next + 1) 0]], ((σ.new (.oth (.map []))).new (.cells [.nilm])).put (σ.next + 1) (.cells [.map σ.next])) := by
  have e : Ends (Run X (.code xf73.body) (([] : List AVal) ++ List.replicate (xf73.ntmps - ([] : List AVal).length) aundef) σ) .ret fun tm' σ' => XOpd.eval tm' (.t 0) = .fn 119 [] [.ptr (σ.next + 1) 0] ∧ σ' = ((σ.new (.oth (.map []))).new (.cells [.nilm])).put (σ.next + 1) (.cells [.map σ.next]) := by
    have hl : (([] : List AVal) ++ List.replicate (xf73.ntmps - ([] : List AVal).length) aundef).length = 4 := rfl
    generalize (([] : List AVal) ++ List.replicate (xf73.ntmps - ([] : List AVal).length) aundef) = tm at *
    simp [xf73, hl, xload, AVal.cells, AVal.one, xcaps, put_next, new_next, Store.get_new, Store.get_put, put_get, setR, only_get, merge_get', only_next, merge_next, upTo_self, upTo_one, merge_only, touch, wrote, isIn, okRec, hits, capsOf, xcaps, stripL, AVal.strip, freeL, AVal.free, fillR, chunks, mkV]
  obtain ⟨tm', σ', h1, h2, h3⟩ := e
  have := Run_callK hX.dxN.h73 (by intro i; simp) h1 (v := .fn 119 [] [.ptr (σ.next + 1) 0]) (by simp [xf73, xresult, xrets, xret_t, h2])
  rw [this, gc_all, h3]
theorem w15 (lo hi : Int) {R : List Md} {v : AVal} (hv : LV 4 Md.enc R v) (hn : R.length ≤ 1000000000) (hs : ∀ s, s ∈ R → s.nm.size ≤ 1000) (σ : Store) : Run X (.call 15) [.agg [.int .i64 lo, .int .i64 hi, v]] σ = some (.ret, [.tup [.int .i64 (plC lo hi R).1, .int .i64 (plC lo hi R).2]], σ) := by
  have f1 := hv.free Md.fr
  refine call1 (a := .agg [.int .i64 lo, .int .i64 hi, v]) (v := .tup [.int .i64 (plC lo hi R).1, .int .i64 (plC lo hi R).2]) hX.h15 (by simp [AVal.strip, stripL, AVal.free, freeL, f1]) (by decide) (fun tm hl h0 => ?_) rfl σ
  simp only [AVal.strip, stripL, f1] at h0
  replace hl : tm.length = 41 := hl
  have u1 := cw2 hX (a := lo) (b := hi) (lo := 0) (hi := 1000000)
  have u2 := w71 hX.dxA
  have u3 := first4 hX.dxA
  have u4 : ∀ σ, Run X (.call 72) [.int .i64 (R.length : Int), .int .i64 5] σ = some (.ret, [.int .i64 (cnt R.length 5)], σ) := fun σ => w72 hX R.length 5 σ
  obtain ⟨hln, hdn⟩ := hv.len
  unfold Gives plC
  by_cases c : plate lo hi R.length = 0
  · rw [if_pos c]
    have c' := c
    unfold plate at c'
    have u5 := w73 hX
    have eP : Ends (Run X (.code (.seq (.seq xf15.body.fst xf15.body.snd.fst) xf15.body.snd.snd.fst)) tm Store.empty) .normal fun tm' σ' => tm'.length = 41 ∧ XOpd.eval tm' (.t 1) = .ptr 0 0 ∧ XOpd.eval tm' (.t 5) = .ptr 5 0 ∧ σ'.get 0 = some (.cells [.int .i64 lo, .int .i64 hi, v]) ∧ σ'.get 3 = some (.oth (.map (nms []))) ∧ σ'.get (3 + 1) = some (.cells [.map 3]) ∧ σ'.get (3 + 2) = some (.cells [.fn 119 [] [.ptr (3 + 1) 0]]) ∧ σ'.next = 6 := by
      simp [xf15, XCode.fst, XCode.snd, hl, h0, u1, u2, u3, u4, u5, hln, hdn, c', nms, xload, AVal.cells, AVal.one, Store.empty, Store.new, Store.put, Store.get, look, putL, setR, Store.only, Store.merge, touch, wrote, upTo, isIn, okRec, hits, capsOf, xcaps, stripL, AVal.strip, freeL, AVal.free, fillR, chunks, mkV, List.filter]
    obtain ⟨o1, p1, p2, p3, p4, p5, p6, p7, p8⟩ := out_of eP
    obtain ⟨σ', w, _, _⟩ := w74 hX hv hn hs (n := 3) (K := []) _ ⟨0, p8⟩ p5 p6 p7
    rw [show xf15.body = .seq xf15.body.fst (.seq xf15.body.snd.fst (.seq xf15.body.snd.snd.fst xf15.body.snd.snd.snd)) from rfl, seq_left, seq_left]
    rw [Run_seq, o1, thenC_normal]
    generalize outT X _ _ _ = tm3 at *
    generalize outS X _ _ _ = σ3 at *
    simp at w
    simp [xf15, XCode.fst, XCode.snd, p1, p2, p3, p4, w, xload, AVal.cells, xresult, xrets, xret_t, givesR]
  · rw [if_neg c]
    have c' := c
    unfold plate at c' ⊢
    simp [xf15, hl, h0, u1, u2, u3, u4, hln, hdn, c', xload, AVal.cells, AVal.one, xresult, xrets, xret_t, Store.empty, Store.new, Store.put, Store.get, look, putL, setR, Store.only, Store.merge, touch, wrote, upTo, isIn, okRec, hits, capsOf, xcaps, stripL, AVal.strip, freeL, AVal.free, fillR, chunks, mkV, List.filter]
end
end Go.Proofs.Ytgijgcmcpgepaaa.Eng

/-
  DISPATCH: tasks that are checked.
-/
namespace Go.Proofs.Ytgijgcmcpgepaaa.Eng
set_option linter.unusedSimpArgs false
set_option linter.unusedVariables false
section
variable {X : FuncId → Option XFunc} (hX : DxBCode X)
include hX
set_option maxHeartbeats 4000000 in
theorem w79 (h : Hour) (σ : Store) : Run X (.call 79) [.agg [.int .i64 h.buy, .int .i64 h.sell, .int .i64 h.inf]] σ = some (.ret, [.int .i64 (hourE h)], σ) := by
  refine call1 (X := X) (a := .agg [.int .i64 h.buy, .int .i64 h.sell, .int .i64 h.inf]) (v := .int .i64 (hourE h)) hX.h79 (by simp [AVal.strip, stripL, AVal.free, freeL]) (by decide) (fun tm hl h0 => ?_) rfl σ
  simp only [AVal.strip, stripL] at h0
  replace hl : tm.length = 19 := hl
  unfold Gives
  have u1 := cs3 hX (a := h.buy) (b := h.sell) (c := h.inf)
  have u2 := w71 hX.dxA
  have u3 := first2 hX.dxA
  unfold hourE
  simp [xf79, hl, h0, u1, u2, u3, xload, AVal.cells, AVal.one, Store.empty, Store.new, Store.put, Store.get, look, putL, setR, Store.only, Store.merge, touch, wrote, upTo, isIn, okRec, hits, capsOf, xcaps, stripL, AVal.strip, freeL, AVal.free, fillR, chunks, mkV, List.filter]
theorem loop78 (L : List Hour) {v : AVal} (hv : LV 3 Hour.enc L v) (hn : L.length ≤ 1000000000) : ∀ (k i : Nat), i + k = L.length → ∀ (tm : List AVal) (σ : Store), tm.length = 24 → XOpd.eval tm (.t 1) = .fn 79 [] [] → XOpd.eval tm (.t 9) = v → XOpd.eval tm (.t 10) = .int .i64 L.length → XOpd.eval tm (.t 11) = .int .i64 i →
    Ends (Run X (.code (.loop xf78l0)) tm σ) (if (fiE hourE (L.drop i) i).2 = 0 then .exit 0 else .ret) fun tm' _ => tm'.length = 24 ∧ ((fiE hourE (L.drop i) i).2 ≠ 0 → XOpd.eval tm' (.t 4) = .int .i64 (fiE hourE (L.drop i) i).1 ∧ XOpd.eval tm' (.t 5) = .int .i64 (fiE hourE (L.drop i) i).2)
  | 0, i, hk, tm, σ, hl, h1, h9, h10, h11 => by
    have hi : i = L.length := by omega
    subst hi
    rw [Run_loop]
    simp [xf78l0, hl, h1, h10, h11, fiE]
  | k + 1, i, hk, tm, σ, hl, h1, h9, h10, h11 => by
    have hi : i < L.length := by omega
    have hd : L.drop i = L[i] :: L.drop (i + 1) := List.drop_eq_getElem_cons hi
    have hw : IntKind.i64.wrap ((i : Int) + 1) = ((i + 1 : Nat) : Int) := by rw [wrap_i64] <;> omega
    have h9' : XOpd.eval tm (.t 9) = .list 3 (L.map Hour.enc) none := by rw [h9]; exact hv.ne (by intro e; simp [e] at hi)
    obtain ⟨s, hm⟩ : ∃ s, s = L[i] := ⟨_, rfl⟩
    have gm : ∀ h, (L.map Hour.enc)[i]'h = .agg [.int .i64 s.buy, .int .i64 s.sell, .int .i64 s.inf] := fun h => by rw [List.getElem_map, ← hm]; rfl
    have hlm : (L.map Hour.enc).length = L.length := by simp
    have u := w79 hX s
    rw [Run_loop, hd, ← hm]
    have e9 : XOpd.eval tm (.t 9) = v := h9
    rw [h9'] at e9
    generalize L.map Hour.enc = A at *
    by_cases he : hourE s = 0
    · have ih := loop78 L hv hn k (i + 1) (by omega)
      rw [he] at u
      have key : Ends (Run X (.code xf78l0) tm σ) .normal fun tm' _ => tm'.length = 24 ∧ XOpd.eval tm' (.t 1) = .fn 79 [] [] ∧ XOpd.eval tm' (.t 9) = .list 3 A none ∧ XOpd.eval tm' (.t 10) = .int .i64 L.length ∧ XOpd.eval tm' (.t 11) = .int .i64 ((i + 1 : Nat) : Int) := by
        simp [xf78l0, hl, h1, h9', h10, h11, hi, hlm, hw, gm, u, xload, AVal.cells, AVal.one, put_next, new_next, Store.get_new, Store.get_put, put_get, setR, only_get, merge_get', only_next, merge_next, upTo_self, upTo_one, merge_only, touch, wrote, isIn, okRec, hits, capsOf, xcaps, stripL, AVal.strip, freeL, AVal.free, fillR, chunks, mkV]
      obtain ⟨o1, p1, p2, p3, p4, p5⟩ := out_of key
      simp only [fiE, he, if_true]
      rw [o1, thenC_normal]
      exact ih _ _ p1 p2 (by rw [p3, e9]) p4 p5
    · simp only [fiE, he, if_false]
      simp [xf78l0, hl, h1, h9', h10, h11, hi, hlm, gm, u, he, xload, AVal.cells, AVal.one, put_next, new_next, Store.get_new, Store.get_put, put_get, setR, only_get, merge_get', only_next, merge_next, upTo_self, upTo_one, merge_only, touch, wrote, isIn, okRec, hits, capsOf, xcaps, stripL, AVal.strip, freeL, AVal.free, fillR, chunks, mkV]
theorem w78 {L : List Hour} {v : AVal} (hv : LV 3 Hour.enc L v) (hn : L.length ≤ 1000000000) (σ : Store) : Run X (.call 78) [v, .fn 79 [] []] σ = some (.ret, [.tup [.int .i64 (fiE hourE L 0).1, .int .i64 (fiE hourE L 0).2]], σ) := by
  have f1 := hv.free Hour.fr
  refine call2 (a := v) (b := .fn 79 [] []) (v := .tup [.int .i64 (fiE hourE L 0).1, .int .i64 (fiE hourE L 0).2]) hX.h78 (by rw [f1.2]; exact f1.1) rfl (by decide) (fun tm hl h0 h1 => ?_) rfl σ
  rw [f1.2] at h0
  simp only [AVal.strip, stripL] at h1
  replace hl : tm.length = 24 := hl
  obtain ⟨hln, hdn⟩ := hv.len
  have hL := fun tm σ h1 h2 h3 h4 h5 => out_of (loop78 hX L hv hn L.length 0 (by omega) tm σ h1 h2 h3 h4 h5)
  simp only [List.drop_zero] at hL
  unfold Gives
  by_cases he : (fiE hourE L 0).2 = 0
  · have e1 : (fiE hourE L 0).1 = 0 := fiE_zero he
    simp only [he, if_true] at hL
    simp (maxDischargeDepth := 9) [xf78, hl, h0, h1, hL, he, e1, hln, hdn, xresult, xrets, xret_t]
  · simp only [he, if_false] at hL
    simp (maxDischargeDepth := 9) [xf78, hl, h0, h1, hL, he, hln, hdn, xresult, xrets, xret_t]
omit hX in
def tkV (t : Tk) (w : AVal) : AVal := .agg [.int .i64 t.vol, .int .i64 t.mode, .int .i64 t.worth, w]
omit hX in
def plV (lo hi : Int) (v : AVal) : AVal := .agg [.int .i64 lo, .int .i64 hi, v]
omit hX in
theorem plV_fr {lo hi : Int} {v : AVal} (h : v.free = true ∧ v.strip = v) : (plV lo hi v).free = true ∧ (plV lo hi v).strip = plV lo hi v := by
  simp [plV, AVal.free, freeL, AVal.strip, stripL, h]
omit hX in
theorem tkV_fr {t : Tk} {v : AVal} (h : v.free = true ∧ v.strip = v) : (tkV t v).free = true ∧ (tkV t v).strip = tkV t v := by
  simp [tkV, AVal.free, freeL, AVal.strip, stripL, h]
set_option maxHeartbeats 8000000 in
theorem w17 (lo hi : Int) {R : List Md} {v : AVal} (hv : LV 4 Md.enc R v) (hn : R.length ≤ 1000000000) (hs : ∀ s, s ∈ R → s.nm.size ≤ 1000) (t : Tk) {H : List Hour} {w : AVal} (hw : LV 3 Hour.enc H w) (hm : H.length ≤ 1000000000) (σ : Store) : Run X (.call 17) [plV lo hi v, tkV t w] σ = some (.ret, [.tup [.int .i64 (tkC lo hi R t H).1, .int .i64 (tkC lo hi R t H).2]], σ) := by
  have f1 := hv.free Md.fr
  have f2 := hw.free Hour.fr
  have f3 := plV_fr (lo := lo) (hi := hi) f1
  have f4 := tkV_fr (t := t) f2
  refine call2 (a := plV lo hi v) (b := tkV t w) (v := .tup [.int .i64 (tkC lo hi R t H).1, .int .i64 (tkC lo hi R t H).2]) hX.h17 (by rw [f3.2]; exact f3.1) (by rw [f4.2]; exact f4.1) (by decide) (fun tm hl h0 h1 => ?_) rfl σ
  rw [f3.2] at h0
  rw [f4.2] at h1
  unfold plV at h0
  unfold tkV at h1
  replace hl : tm.length = 47 := hl
  have u0 := w15 hX lo hi hv hn hs
  have u1 := cw1 hX (a := t.vol) (lo := lo) (hi := hi)
  have u2 := cs1 hX (a := t.worth)
  have u3 := first5 hX.dxA
  have u4 : ∀ σ, Run X (.call 72) [.int .i64 (H.length : Int), .int .i64 10] σ = some (.ret, [.int .i64 (cnt H.length 10)], σ) := fun σ => w72 hX H.length 10 σ
  have u5 := w77 hX t.mode R.length
  have u6 := w78 hX hw hm
  obtain ⟨k1, k2⟩ := hv.len
  obtain ⟨k3, k4⟩ := hw.len
  unfold Gives tkC
  by_cases c : tkate lo hi R t H.length = 0
  · rw [if_pos c]
    unfold tkate at c
    simp [xf17, hl, h0, h1, u0, u1, u2, u3, u4, u5, u6, f1, f2, k1, k2, k3, k4, c, fillR, xload, AVal.cells, AVal.one, xresult, xrets, xret_t, Store.empty, Store.new, Store.put, Store.get, look, putL, setR, Store.only, Store.merge, touch, wrote, upTo, isIn, okRec, hits, capsOf, xcaps, stripL, AVal.strip, freeL, AVal.free, fillR, chunks, mkV, List.filter]
  · rw [if_neg c]
    unfold tkate at c ⊢
    simp [xf17, hl, h0, h1, u0, u1, u2, u3, u4, u5, u6, f1, f2, k1, k2, k3, k4, c, fillR, xload, AVal.cells, AVal.one, xresult, xrets, xret_t, Store.empty, Store.new, Store.put, Store.get, look, putL, setR, Store.only, Store.merge, touch, wrote, upTo, isIn, okRec, hits, capsOf, xcaps, stripL, AVal.strip, freeL, AVal.free, fillR, chunks, mkV, List.filter]
theorem w16 (lo hi : Int) {R : List Md} {v : AVal} (hv : LV 4 Md.enc R v) (hn : R.length ≤ 1000000) (σ : Store) : Run X (.call 16) [plV lo hi v] σ = some (.ret, [plV lo hi (.list 4 (R.map Md.enc) none)], σ) := by
  have fr := fr_map Md.fr R
  have f1 := hv.free Md.fr
  have f3 := plV_fr (lo := lo) (hi := hi) f1
  have key : Run X (.call 16) [plV lo hi v] σ = some (.ret, [(plV lo hi (.list 4 (R.map Md.enc) (some 2))).strip], σ) := by
    refine call1 (a := plV lo hi v) (v := plV lo hi (.list 4 (R.map Md.enc) (some 2))) hX.h16 (by rw [f3.2]; exact f3.1) (by decide) (fun tm hl h0 => ?_) (by simp [plV, AVal.strip, stripL, AVal.free, freeL, freeL_strip fr, fr]) σ
    rw [f3.2] at h0
    unfold plV at h0 ⊢
    replace hl : tm.length = 9 := hl
    unfold Gives
    cases R with
    | nil =>
      rcases hv with e | ⟨e, _⟩ <;> rw [e] at h0 <;> simp [xf16, hl, h0, xappend, AVal.isSlice, ones, xresult_one, xret_cn, xload, AVal.cells, AVal.one, Store.empty, Store.new, Store.put, Store.get, look, putL, setR, Store.only, Store.merge, touch, wrote, upTo, isIn, okRec, hits, capsOf, xcaps, stripL, AVal.strip, freeL, AVal.free, fillR, chunks, mkV, List.filter]
    | cons a l =>
      have e := hv.ne (by simp)
      have ho : ones ((a :: l).map Md.enc) = true := by simp [ones, Md.enc, AVal.cells, AVal.one]
      have hil : (a :: l).map Md.enc = a.enc :: l.map Md.enc := rfl
      rw [e, hil] at h0
      rw [hil] at ho
      simp only [List.length_cons] at hn
      have b1 : (l.length + 1) * 40 ≤ 1000000000000 := by omega
      have b2 : l.length + 1 ≤ 1000000000000 := by omega
      simp [xf16, hl, h0, ho, b1, b2, hil, xappend, AVal.isSlice, xresult_one, xret_cn, xload, AVal.cells, AVal.one, Store.empty, Store.new, Store.put, Store.get, look, putL, setR, Store.only, Store.merge, touch, wrote, upTo, isIn, okRec, hits, capsOf, xcaps, stripL, AVal.strip, freeL, AVal.free, fillR, chunks, mkV, List.filter]
  simpa [plV, AVal.strip, stripL, freeL_strip fr] using key
theorem w18 (t : Tk) {R : List Hour} {v : AVal} (hv : LV 3 Hour.enc R v) (hn : R.length ≤ 1000000) (σ : Store) : Run X (.call 18) [tkV t v] σ = some (.ret, [tkV t (.list 3 (R.map Hour.enc) none)], σ) := by
  have fr := fr_map Hour.fr R
  have f1 := hv.free Hour.fr
  have f3 := tkV_fr (t := t) f1
  have key : Run X (.call 18) [tkV t v] σ = some (.ret, [(tkV t (.list 3 (R.map Hour.enc) (some 2))).strip], σ) := by
    refine call1 (a := tkV t v) (v := tkV t (.list 3 (R.map Hour.enc) (some 2))) hX.h18 (by rw [f3.2]; exact f3.1) (by decide) (fun tm hl h0 => ?_) (by simp [tkV, AVal.strip, stripL, AVal.free, freeL, freeL_strip fr, fr]) σ
    rw [f3.2] at h0
    unfold tkV at h0 ⊢
    replace hl : tm.length = 9 := hl
    unfold Gives
    cases R with
    | nil =>
      rcases hv with e | ⟨e, _⟩ <;> rw [e] at h0 <;> simp [xf18, hl, h0, xappend, AVal.isSlice, ones, xresult_one, xret_cn, xload, AVal.cells, AVal.one, Store.empty, Store.new, Store.put, Store.get, look, putL, setR, Store.only, Store.merge, touch, wrote, upTo, isIn, okRec, hits, capsOf, xcaps, stripL, AVal.strip, freeL, AVal.free, fillR, chunks, mkV, List.filter]
    | cons a l =>
      have e := hv.ne (by simp)
      have ho : ones ((a :: l).map Hour.enc) = true := by simp [ones, Hour.enc, AVal.cells, AVal.one]
      have hil : (a :: l).map Hour.enc = a.enc :: l.map Hour.enc := rfl
      rw [e, hil] at h0
      rw [hil] at ho
      simp only [List.length_cons] at hn
      have b1 : (l.length + 1) * 24 ≤ 1000000000000 := by omega
      have b2 : l.length + 1 ≤ 1000000000000 := by omega
      simp [xf18, hl, h0, ho, b1, b2, hil, xappend, AVal.isSlice, xresult_one, xret_cn, xload, AVal.cells, AVal.one, Store.empty, Store.new, Store.put, Store.get, look, putL, setR, Store.only, Store.merge, touch, wrote, upTo, isIn, okRec, hits, capsOf, xcaps, stripL, AVal.strip, freeL, AVal.free, fillR, chunks, mkV, List.filter]
  simpa [tkV, AVal.strip, stripL, freeL_strip fr] using key
end
end Go.Proofs.Ytgijgcmcpgepaaa.Eng

/-
  DISPATCH: plants and tasks that are checked, by the reference.
-/
namespace Go.Proofs.Ytgijgcmcpgepaaa.Eng
set_option linter.unusedSimpArgs false
set_option linter.unusedVariables false
theorem modeE_ref (K : List ByteArray) (m : Md) : modeE K m = if nameB m.nm then (if hasT m.nm K then 5 else if win m.ch (-10000) 10000 && (win m.en (-10000) 10000 && win m.st 0 10000) then 0 else 2) else 4 := by
  unfold modeE nameE
  cases nameB m.nm <;> cases hasT m.nm K <;> cases c1 : win m.ch (-10000) 10000 <;> cases c2 : win m.en (-10000) 10000 <;> cases c3 : win m.st 0 10000 <;> simp [firstNZ, cw, c1, c2, c3]
theorem modeE_add {K : List ByteArray} {m : Md} (h : modeE K m = 0) : addN K m.nm = K ++ [m.nm] := by
  rw [modeE_ref] at h
  unfold addN
  cases c : hasT m.nm K with
  | false => simp
  | true => cases c2 : nameB m.nm <;> simp [c, c2] at h
theorem strs_app (K : List ByteArray) (s : ByteArray) : strs (K ++ [s]) = strs K ++ [.str s] := by simp [strs]
section
variable {X : FuncId → Option XFunc} (hX : DxBCode X)
include hX
set_option maxHeartbeats 4000000 in
theorem w84 (m : Md) (hs : m.nm.size ≤ 1000) {K : List ByteArray} {v : AVal} (hv : StrV K v.strip) (hn : K.length ≤ 1000000000) (σ : Store) : Run X (.call 84) [m.enc, v] σ = some (.ret, [.int .i64 (modeE K m)], σ) := by
  have f := hv.free
  refine call2 (a := m.enc) (b := v) (v := .int .i64 (modeE K m)) hX.h84 rfl f.1 (by decide) (fun tm hl h0 h1 => ?_) rfl σ
  have e0 : m.enc.strip = .agg [.str m.nm, .int .i64 m.ch, .int .i64 m.en, .int .i64 m.st] := rfl
  rw [e0] at h0
  replace hl : tm.length = 29 := hl
  have u1 := w115 hX.dxN m.nm hs
  have u2 := w116 hX.dxN hv hn m.nm
  have u3 := w33 hX.dxA
  rw [modeE_ref]
  generalize v.strip = s at *
  unfold Gives
  cases c1 : nameB m.nm
  · simp [xf84, hl, h0, h1, u1, c1, xload, AVal.cells, AVal.one, Store.empty, Store.new, Store.put, Store.get, look, putL, setR, Store.only, Store.merge, touch, wrote, upTo, isIn, okRec, hits, capsOf, xcaps, stripL, AVal.strip, freeL, AVal.free, fillR, chunks, mkV, List.filter]
  cases c2 : hasT m.nm K
  · cases c3 : win m.ch (-10000) 10000
    · simp [xf84, hl, h0, h1, u1, u2, u3, f, c1, c2, c3, xload, AVal.cells, AVal.one, Store.empty, Store.new, Store.put, Store.get, look, putL, setR, Store.only, Store.merge, touch, wrote, upTo, isIn, okRec, hits, capsOf, xcaps, stripL, AVal.strip, freeL, AVal.free, fillR, chunks, mkV, List.filter]
    cases c4 : win m.en (-10000) 10000
    · simp [xf84, hl, h0, h1, u1, u2, u3, f, c1, c2, c3, c4, xload, AVal.cells, AVal.one, Store.empty, Store.new, Store.put, Store.get, look, putL, setR, Store.only, Store.merge, touch, wrote, upTo, isIn, okRec, hits, capsOf, xcaps, stripL, AVal.strip, freeL, AVal.free, fillR, chunks, mkV, List.filter]
    cases c5 : win m.st 0 10000 <;> simp [xf84, hl, h0, h1, u1, u2, u3, f, c1, c2, c3, c4, c5, xload, AVal.cells, AVal.one, Store.empty, Store.new, Store.put, Store.get, look, putL, setR, Store.only, Store.merge, touch, wrote, upTo, isIn, okRec, hits, capsOf, xcaps, stripL, AVal.strip, freeL, AVal.free, fillR, chunks, mkV, List.filter]
  · simp [xf84, hl, h0, h1, u1, u2, u3, f, c1, c2, xload, AVal.cells, AVal.one, Store.empty, Store.new, Store.put, Store.get, look, putL, setR, Store.only, Store.merge, touch, wrote, upTo, isIn, okRec, hits, capsOf, xcaps, stripL, AVal.strip, freeL, AVal.free, fillR, chunks, mkV, List.filter]
omit hX in
theorem OutG.strs {σ : Store} {m0 : Nat} {K : List ByteArray} {v : AVal} (h : OutG 9 1 σ m0 (Go.Proofs.Ytgijgcmcpgepaaa.Eng.strs K) v) : StrV K v.strip := by
  have fr := strs_fr K
  rcases h with ⟨rfl, hl⟩ | ⟨j, _, _, rfl, _, _⟩
  · exact .inr ⟨rfl, by simpa [Go.Proofs.Ytgijgcmcpgepaaa.Eng.strs] using hl⟩
  · exact .inl (by simp [AVal.strip, freeL_strip fr])
set_option maxHeartbeats 8000000 in
theorem loop23 (lo hi : Int) (L : List Md) {v : AVal} (hv : LV 4 Md.enc L v) (hn : L.length ≤ 1000000) (hs : ∀ s, s ∈ L → s.nm.size ≤ 1000) : ∀ (k i : Nat), i + k = L.length → ∀ (K : List ByteArray) (tm : List AVal) (σ : Store), K.length = i → tm.length = 63 → XOpd.eval tm (.t 1) = .ptr 0 0 → XOpd.eval tm (.t 5) = .int .i64 i → σ.get 0 = some (.cells [.int .i64 lo, .int .i64 hi, v]) → 1 ≤ σ.next → OutG 9 1 σ 1 (strs K) (XOpd.eval tm (.t 4)) →
    Ends (Run X (.code (.loop xf23l0)) tm σ) (if (mdF K (L.drop i) i).2 = 0 then .exit 0 else .ret) fun tm' _ => tm'.length = 63 ∧ ((mdF K (L.drop i) i).2 ≠ 0 → XOpd.eval tm' (.t 2) = .int .i64 (mdF K (L.drop i) i).1 ∧ XOpd.eval tm' (.t 3) = .int .i64 (mdF K (L.drop i) i).2)
  | 0, i, hk, K, tm, σ, hK, hl, h1, h5, g0, nx, ho => by
    have hi' : i = L.length := by omega
    subst hi'
    obtain ⟨k1, k2⟩ := hv.len
    rw [Run_loop]
    simp [xf23l0, hl, h1, h5, g0, k1, k2, mdF, xload]
  | k + 1, i, hk, K, tm, σ, hK, hl, h1, h5, g0, nx, ho => by
    have hi' : i < L.length := by omega
    have hii : (i : Int) < L.length := by omega
    have hd : L.drop i = L[i] :: L.drop (i + 1) := List.drop_eq_getElem_cons hi'
    have hw : IntKind.i64.wrap ((i : Int) + 1) = ((i + 1 : Nat) : Int) := by rw [wrap_i64] <;> omega
    have hvv : v = .list 4 (L.map Md.enc) none := hv.ne (by intro e; simp [e] at hi')
    obtain ⟨s, hm⟩ : ∃ s, s = L[i] := ⟨_, rfl⟩
    have hsz := hs L[i] (by simp)
    rw [← hm] at hsz
    have gm : ∀ h, (L.map Md.enc)[i]'h = .agg [.str s.nm, .int .i64 s.ch, .int .i64 s.en, .int .i64 s.st] := fun h => by rw [List.getElem_map, ← hm]; rfl
    have hlm : (L.map Md.enc).length = L.length := by simp
    generalize hvo : XOpd.eval tm (.t 4) = vo at *
    have u : ∀ σ, Run X (.call 84) [.agg [.str s.nm, .int .i64 s.ch, .int .i64 s.en, .int .i64 s.st], vo] σ = some (.ret, [.int .i64 (modeE K s)], σ) := fun σ => w84 hX s hsz (K := K) ho.strs (by omega) σ
    have hpl := strs_len K
    obtain ⟨v', σ', a1, a2, a3, a4⟩ := out_append (bytes := 16) (ho.tok (.tok 9 1 1)) (by rw [new_next]; omega) (x := .str s.nm) rfl (by decide) (by omega) (by omega) (some σ.next)
    have hi2 : i < (L.map Md.enc).length := by rw [hlm]; exact hi'
    rw [Run_loop, hd, ← hm]
    by_cases he : modeE K s = 0
    · have key : Ends (Run X (.code xf23l0) tm σ) .normal fun tm' σ'' => tm'.length = 63 ∧ XOpd.eval tm' (.t 1) = .ptr 0 0 ∧ XOpd.eval tm' (.t 5) = .int .i64 ((i + 1 : Nat) : Int) ∧ XOpd.eval tm' (.t 4) = v' ∧ σ'' = σ' := by
        rw [he] at u
        rw [hvv] at g0
        generalize L.map Md.enc = A at *
        simp [xf23l0, hl, h1, h5, hvo, g0, hi', hi2, hii, hlm, hw, gm, u, a1, xload, AVal.cells, AVal.one, put_next, new_next, Store.get_new, Store.get_put, put_get, setR, only_get, merge_get', only_next, merge_next, upTo_self, upTo_one, merge_only, touch, wrote, isIn, okRec, hits, capsOf, xcaps, stripL, AVal.strip, freeL, AVal.free, fillR, chunks, mkV]
      obtain ⟨o1, p1, p2, p3, p4, p5⟩ := out_of key
      simp only [mdF, he, if_true]
      rw [o1, thenC_normal]
      rw [new_next] at a4
      have ea := modeE_add he
      refine loop23 lo hi L hv hn hs k (i + 1) (by omega) (addN K s.nm) _ _ (by rw [ea]; simp [hK]) p1 p2 p3 ?_ (by rw [p5]; omega) (by rw [ea, p4, p5, strs_app]; exact a2)
      rw [p5, a3 0 (by omega), Store.get_new, put_get, if_neg (by omega)]
      exact g0
    · simp only [mdF, he, if_false]
      rw [hvv] at g0
      generalize L.map Md.enc = A at *
      simp [xf23l0, hl, h1, h5, hvo, g0, hi', hi2, hii, hlm, gm, u, he, xload, AVal.cells, AVal.one, put_next, new_next, Store.get_new, Store.get_put, put_get, setR, only_get, merge_get', only_next, merge_next, upTo_self, upTo_one, merge_only, touch, wrote, isIn, okRec, hits, capsOf, xcaps, stripL, AVal.strip, freeL, AVal.free, fillR, chunks, mkV]
omit hX in
/-- The first error of a plant, in order. -/
theorem plate_ref (lo hi : Int) (n : Nat) : plate lo hi n = if win lo 0 1000000 && win hi 0 1000000 then (if hi < lo then 9 else if 40 ≤ hi - lo then 8 else if n = 0 then 10 else if 5 < n then 8 else 0) else 2 := by
  unfold plate cnt
  cases c1 : win lo 0 1000000
  · simp [firstNZ, cw, c1]
  cases c2 : win hi 0 1000000
  · simp [firstNZ, cw, c1, c2]
  have b1 := win_iff.1 c1
  have b2 := win_iff.1 c2
  have hw : IntKind.i64.wrap (hi - lo) = hi - lo := wrp (by omega) (by omega)
  rw [hw]
  by_cases d1 : lo ≤ hi
  · have d1' : ¬ hi < lo := by omega
    by_cases d2 : hi - lo < 40
    · have d2' : ¬ 40 ≤ hi - lo := by omega
      by_cases d3 : n = 0
      · simp [firstNZ, cw, c1, c2, d1, d1', d2, d2', d3]
      · have d3' : 0 < n := by omega
        by_cases d4 : n ≤ 5
        · have d4' : ¬ 5 < n := by omega
          simp [firstNZ, cw, c1, c2, d1, d1', d2, d2', d3, d3', d4, d4']
        · have d4' : 5 < n := by omega
          simp [firstNZ, cw, c1, c2, d1, d1', d2, d2', d3, d3', d4, d4']
    · have d2' : 40 ≤ hi - lo := by omega
      simp [firstNZ, cw, c1, c2, d1, d1', d2, d2']
  · have d1' : hi < lo := by omega
    simp [firstNZ, cw, c1, c2, d1, d1']
end
end Go.Proofs.Ytgijgcmcpgepaaa.Eng

/-
  DISPATCH: plants and tasks that are checked, by the reference, whole.
-/
namespace Go.Proofs.Ytgijgcmcpgepaaa.Eng
set_option linter.unusedSimpArgs false
set_option linter.unusedVariables false
theorem hourE_ref (h : Hour) : hourE h = if win h.buy (-10000) 10000 && (win h.sell (-10000) 10000 && win h.inf (-10000) 10000) then (if h.buy < h.sell then 9 else 0) else 2 := by
  unfold hourE
  by_cases d : h.sell ≤ h.buy
  · have d' : ¬ h.buy < h.sell := by omega
    cases c1 : win h.buy (-10000) 10000 <;> cases c2 : win h.sell (-10000) 10000 <;> cases c3 : win h.inf (-10000) 10000 <;> simp [firstNZ, cw, c1, c2, c3, d, d']
  · have d' : h.buy < h.sell := by omega
    cases c1 : win h.buy (-10000) 10000 <;> cases c2 : win h.sell (-10000) 10000 <;> cases c3 : win h.inf (-10000) 10000 <;> simp [firstNZ, cw, c1, c2, c3, d, d']
theorem tkate_ref (lo hi : Int) (R : List Md) (t : Tk) (n : Nat) : tkate lo hi R t n = if (plC lo hi R).2 = 0 then (if win t.vol lo hi then (if 0 ≤ t.mode ∧ t.mode < R.length then (if win t.worth (-10000) 10000 then (if n = 0 then 10 else if 10 < n then 8 else 0) else 2) else 6) else 2) else (plC lo hi R).2 := by
  unfold tkate ixE cnt
  by_cases c0 : (plC lo hi R).2 = 0
  · cases c1 : win t.vol lo hi
    · simp [firstNZ, cw, c0, c1]
    by_cases c2 : 0 ≤ t.mode ∧ t.mode < R.length
    · cases c3 : win t.worth (-10000) 10000
      · simp [firstNZ, cw, c0, c1, c2, c3]
      by_cases d3 : n = 0
      · simp [firstNZ, cw, c0, c1, c2, c3, d3]
      · have d3' : 0 < n := by omega
        by_cases d4 : n ≤ 10
        · have d4' : ¬ 10 < n := by omega
          simp [firstNZ, cw, c0, c1, c2, c3, d3, d3', d4, d4']
        · have d4' : 10 < n := by omega
          simp [firstNZ, cw, c0, c1, c2, c3, d3, d3', d4, d4']
    · simp [firstNZ, cw, c0, c1, c2]
  · simp [firstNZ, c0]
section
variable {X : FuncId → Option XFunc} (hX : DxBCode X)
include hX
set_option maxHeartbeats 8000000 in
theorem w23 (lo hi : Int) {R : List Md} {v : AVal} (hv : LV 4 Md.enc R v) (hn : R.length ≤ 1000000) (hs : ∀ s, s ∈ R → s.nm.size ≤ 1000) (σ : Store) : Run X (.call 23) [plV lo hi v] σ = some (.ret, [.tup [.int .i64 (plC lo hi R).1, .int .i64 (plC lo hi R).2]], σ) := by
  have f1 := hv.free Md.fr
  have f3 := plV_fr (lo := lo) (hi := hi) f1
  refine call1 (a := plV lo hi v) (v := .tup [.int .i64 (plC lo hi R).1, .int .i64 (plC lo hi R).2]) hX.h23 (by rw [f3.2]; exact f3.1) (by decide) (fun tm hl h0 => ?_) rfl σ
  rw [f3.2] at h0
  unfold plV at h0
  replace hl : tm.length = 63 := hl
  have u := w33 hX.dxA
  obtain ⟨k1, k2⟩ := hv.len
  have pr := plate_ref lo hi R.length
  unfold Gives plC
  cases c1 : win lo 0 1000000
  · have hp : plate lo hi R.length = 2 := by rw [pr]; simp [c1]
    simp [xf23, hl, h0, u, c1, hp, xload, AVal.cells, AVal.one, xresult, xrets, xret_t, Store.empty, Store.new, Store.put, Store.get, look, putL, setR, Store.only, Store.merge, touch, wrote, upTo, isIn, okRec, hits, capsOf, xcaps, stripL, AVal.strip, freeL, AVal.free, fillR, chunks, mkV, List.filter]
  cases c2 : win hi 0 1000000
  · have hp : plate lo hi R.length = 2 := by rw [pr]; simp [c1, c2]
    simp [xf23, hl, h0, u, c1, c2, hp, xload, AVal.cells, AVal.one, xresult, xrets, xret_t, Store.empty, Store.new, Store.put, Store.get, look, putL, setR, Store.only, Store.merge, touch, wrote, upTo, isIn, okRec, hits, capsOf, xcaps, stripL, AVal.strip, freeL, AVal.free, fillR, chunks, mkV, List.filter]
  have b1 := win_iff.1 c1
  have b2 := win_iff.1 c2
  have hw : IntKind.i64.wrap (hi - lo) = hi - lo := wrp (by omega) (by omega)
  by_cases d1 : hi < lo
  · have hp : plate lo hi R.length = 9 := by rw [pr]; simp [c1, c2, d1]
    simp [xf23, hl, h0, u, c1, c2, d1, hp, xload, AVal.cells, AVal.one, xresult, xrets, xret_t, Store.empty, Store.new, Store.put, Store.get, look, putL, setR, Store.only, Store.merge, touch, wrote, upTo, isIn, okRec, hits, capsOf, xcaps, stripL, AVal.strip, freeL, AVal.free, fillR, chunks, mkV, List.filter]
  by_cases d2 : 40 ≤ hi - lo
  · have hp : plate lo hi R.length = 8 := by rw [pr]; simp [c1, c2, d1, d2]
    simp [xf23, hl, h0, u, c1, c2, d1, d2, hw, hp, xload, AVal.cells, AVal.one, xresult, xrets, xret_t, Store.empty, Store.new, Store.put, Store.get, look, putL, setR, Store.only, Store.merge, touch, wrote, upTo, isIn, okRec, hits, capsOf, xcaps, stripL, AVal.strip, freeL, AVal.free, fillR, chunks, mkV, List.filter]
  by_cases d3 : R.length = 0
  · have hp : plate lo hi R.length = 10 := by rw [pr]; simp [c1, c2, d1, d2, d3]
    have d3' : (R.length : Int) = 0 := by omega
    have d3'' : R = [] := List.eq_nil_of_length_eq_zero d3
    simp [xf23, hl, h0, u, c1, c2, d1, d2, d3', d3'', hw, hp, k1, k2, xload, AVal.cells, AVal.one, xresult, xrets, xret_t, Store.empty, Store.new, Store.put, Store.get, look, putL, setR, Store.only, Store.merge, touch, wrote, upTo, isIn, okRec, hits, capsOf, xcaps, stripL, AVal.strip, freeL, AVal.free, fillR, chunks, mkV, List.filter]
    rw [d3''] at hp
    simp at hp
    simp [hp]
  have d3' : ¬ (R.length : Int) = 0 := by omega
  have d3'' : ¬ R = [] := by intro e; simp [e] at d3
  by_cases d4 : 5 < R.length
  · have hp : plate lo hi R.length = 8 := by rw [pr]; simp [c1, c2, d1, d2, d3, d4, d3'']
    have d4' : (5 : Int) < R.length := by omega
    simp [xf23, hl, h0, u, c1, c2, d1, d2, d3', d3'', d4', hw, hp, k1, k2, xload, AVal.cells, AVal.one, xresult, xrets, xret_t, Store.empty, Store.new, Store.put, Store.get, look, putL, setR, Store.only, Store.merge, touch, wrote, upTo, isIn, okRec, hits, capsOf, xcaps, stripL, AVal.strip, freeL, AVal.free, fillR, chunks, mkV, List.filter]
  have hp : plate lo hi R.length = 0 := by rw [pr]; simp [c1, c2, d1, d2, d3, d4, d3'']
  have d4' : ¬ (5 : Int) < R.length := by omega
  rw [if_pos hp]
  have eP : Ends (Run X (.code (XCode.cutP 7 xf23.body)) tm Store.empty) .normal fun tm' σ' => tm'.length = 63 ∧ XOpd.eval tm' (.t 1) = .ptr 0 0 ∧ XOpd.eval tm' (.t 5) = .int .i64 ((0 : Nat) : Int) ∧ σ'.get 0 = some (.cells [.int .i64 lo, .int .i64 hi, v]) ∧ 1 ≤ σ'.next ∧ OutG 9 1 σ' 1 (strs []) (XOpd.eval tm' (.t 4)) := by
    simp [xf23, XCode.cutP, hl, h0, u, c1, c2, d1, d2, d3', d3'', d4', hw, k1, k2, xload, AVal.cells, AVal.one, Store.empty, Store.new, Store.put, Store.get, look, putL, setR, Store.only, Store.merge, touch, wrote, upTo, isIn, okRec, hits, capsOf, xcaps, stripL, AVal.strip, freeL, AVal.free, fillR, chunks, mkV, List.filter]
    exact .inl ⟨rfl, rfl⟩
  obtain ⟨o1, p1, p2, p3, p4, p5, p6⟩ := out_of eP
  obtain ⟨q1, q2, q3⟩ := out_of (loop23 hX lo hi R hv hn hs R.length 0 (by omega) [] _ _ rfl p1 p2 p3 p4 p5 p6)
  simp only [List.drop_zero] at q1 q3
  rw [Run_cut 7, o1, thenC_normal, show XCode.cutB 7 xf23.body = .block 0 (.loop xf23l0) from rfl, Run_block, q1]
  generalize outT X (.loop xf23l0) _ _ = tm3 at *
  generalize outS X (.loop xf23l0) _ _ = σ3 at *
  by_cases he : (mdF [] R 0).2 = 0
  · have e1 : (mdF [] R 0).1 = 0 := mdF_zero he
    simp [xf23, XCode.cutR, q2, he, e1, xresult, xrets, xret_t]
  · obtain ⟨r1, r2⟩ := q3 he
    simp [xf23, XCode.cutR, q2, he, r1, r2, xresult, xrets, xret_t]
theorem w85 (lo hi : Int) {R : List Md} {v : AVal} (hv : LV 4 Md.enc R v) (hn : R.length ≤ 1000000) (hs : ∀ s, s ∈ R → s.nm.size ≤ 1000) (σ : Store) : Run X (.call 85) [plV lo hi v] σ = some (.ret, [.int .i64 (plC lo hi R).2], σ) := by
  have f1 := hv.free Md.fr
  have f3 := plV_fr (lo := lo) (hi := hi) f1
  have u := w23 hX lo hi hv hn hs
  refine call1 (a := plV lo hi v) (v := .int .i64 (plC lo hi R).2) hX.h85 (by rw [f3.2]; exact f3.1) (by decide) (fun tm hl h0 => ?_) rfl σ
  rw [f3.2] at h0
  unfold plV at h0 u
  replace hl : tm.length = 11 := hl
  unfold Gives
  simp [xf85, hl, h0, u, f1, xload, AVal.cells, AVal.one, Store.empty, Store.new, Store.put, Store.get, look, putL, setR, Store.only, Store.merge, touch, wrote, upTo, isIn, okRec, hits, capsOf, xcaps, stripL, AVal.strip, freeL, AVal.free, fillR, chunks, mkV, List.filter]
theorem w86 (a : Int) (σ : Store) : Run X (.call 86) [.int .i64 a] σ = some (.ret, [.bool (win a (-10000) 10000)], σ) := by
  refine call1 (X := X) (a := .int .i64 a) (v := .bool (win a (-10000) 10000)) hX.h86 rfl (by decide) (fun tm hl h0 => ?_) rfl σ
  simp only [AVal.strip, stripL] at h0
  replace hl : tm.length = 5 := hl
  unfold Gives
  simp [xf86, hl, h0, w33 hX.dxA]
set_option maxHeartbeats 8000000 in
theorem loop24 (L : List Hour) {vol mode worth : Int} {v : AVal} (hv : LV 3 Hour.enc L v) (hn : L.length ≤ 1000000) : ∀ (k i : Nat), i + k = L.length → ∀ (tm : List AVal) (σ : Store), tm.length = 77 → XOpd.eval tm (.t 3) = .ptr 1 0 → XOpd.eval tm (.t 7) = .int .i64 i → σ.get 1 = some (.cells [.int .i64 vol, .int .i64 mode, .int .i64 worth, v]) → (∃ N, σ.next = N + 2) →
    Ends (Run X (.code (.loop xf24l0)) tm σ) (if (fiE hourE (L.drop i) i).2 = 0 then .exit 0 else .ret) fun tm' _ => tm'.length = 77 ∧ ((fiE hourE (L.drop i) i).2 ≠ 0 → XOpd.eval tm' (.t 4) = .int .i64 (fiE hourE (L.drop i) i).1 ∧ XOpd.eval tm' (.t 5) = .int .i64 (fiE hourE (L.drop i) i).2)
  | 0, i, hk, tm, σ, hl, h3, h7, g1, hN => by
    have hi' : i = L.length := by omega
    subst hi'
    obtain ⟨k1, k2⟩ := hv.len
    rw [Run_loop]
    simp [xf24l0, hl, h3, h7, g1, k1, k2, fiE, xload]
  | k + 1, i, hk, tm, σ, hl, h3, h7, g1, ⟨N, hN⟩ => by
    have hi' : i < L.length := by omega
    have hii : (i : Int) < L.length := by omega
    have hd : L.drop i = L[i] :: L.drop (i + 1) := List.drop_eq_getElem_cons hi'
    have hw : IntKind.i64.wrap ((i : Int) + 1) = ((i + 1 : Nat) : Int) := by rw [wrap_i64] <;> omega
    have hvv : v = .list 3 (L.map Hour.enc) none := hv.ne (by intro e; simp [e] at hi')
    obtain ⟨s, hm⟩ : ∃ s, s = L[i] := ⟨_, rfl⟩
    have gm : ∀ h, (L.map Hour.enc)[i]'h = .agg [.int .i64 s.buy, .int .i64 s.sell, .int .i64 s.inf] := fun h => by rw [List.getElem_map, ← hm]; rfl
    have hlm : (L.map Hour.enc).length = L.length := by simp
    have hi2 : i < (L.map Hour.enc).length := by rw [hlm]; exact hi'
    have u := w86 hX
    have er := hourE_ref s
    have g1' := g1
    rw [Run_loop, hd, ← hm]
    rw [hvv] at g1
    by_cases he : hourE s = 0
    · have key : Ends (Run X (.code xf24l0) tm σ) .normal fun tm' σ' => tm'.length = 77 ∧ XOpd.eval tm' (.t 3) = .ptr 1 0 ∧ XOpd.eval tm' (.t 7) = .int .i64 ((i + 1 : Nat) : Int) ∧ σ'.get 1 = some (.cells [.int .i64 vol, .int .i64 mode, .int .i64 worth, v]) ∧ σ'.next = N + 3 := by
        rw [hvv]
        rw [he] at er
        generalize L.map Hour.enc = A at *
        cases c1 : win s.buy (-10000) 10000 <;> cases c2 : win s.sell (-10000) 10000 <;> cases c3 : win s.inf (-10000) 10000 <;> by_cases c4 : s.buy < s.sell <;> simp [c1, c2, c3, c4] at er
        simp [xf24l0, hl, h3, h7, g1, hN, hi', hi2, hii, hlm, hw, gm, u, c1, c2, c3, c4, xload, xlen, AVal.cells, AVal.one, put_next, new_next, Store.get_new, Store.get_put, put_get, setR, only_get, merge_get', only_next, merge_next, upTo_self, upTo_one, merge_only, touch, wrote, isIn, okRec, hits, capsOf, xcaps, stripL, AVal.strip, freeL, AVal.free, fillR, chunks, mkV]
      obtain ⟨o1, p1, p2, p3, p4, p5⟩ := out_of key
      simp only [fiE, he, if_true]
      rw [o1, thenC_normal]
      exact loop24 L hv hn k (i + 1) (by omega) _ _ p1 p2 p3 p4 ⟨N + 1, p5⟩
    · simp only [fiE, he, if_false]
      generalize L.map Hour.enc = A at *
      cases c1 : win s.buy (-10000) 10000
      · simp [c1] at er
        simp [xf24l0, hl, h3, h7, g1, hN, hi', hi2, hii, hlm, gm, u, c1, er, xload, xlen, AVal.cells, AVal.one, put_next, new_next, Store.get_new, Store.get_put, put_get, setR, only_get, merge_get', only_next, merge_next, upTo_self, upTo_one, merge_only, touch, wrote, isIn, okRec, hits, capsOf, xcaps, stripL, AVal.strip, freeL, AVal.free, fillR, chunks, mkV]
      cases c2 : win s.sell (-10000) 10000
      · simp [c1, c2] at er
        simp [xf24l0, hl, h3, h7, g1, hN, hi', hi2, hii, hlm, gm, u, c1, c2, er, xload, xlen, AVal.cells, AVal.one, put_next, new_next, Store.get_new, Store.get_put, put_get, setR, only_get, merge_get', only_next, merge_next, upTo_self, upTo_one, merge_only, touch, wrote, isIn, okRec, hits, capsOf, xcaps, stripL, AVal.strip, freeL, AVal.free, fillR, chunks, mkV]
      cases c3 : win s.inf (-10000) 10000
      · simp [c1, c2, c3] at er
        simp [xf24l0, hl, h3, h7, g1, hN, hi', hi2, hii, hlm, gm, u, c1, c2, c3, er, xload, xlen, AVal.cells, AVal.one, put_next, new_next, Store.get_new, Store.get_put, put_get, setR, only_get, merge_get', only_next, merge_next, upTo_self, upTo_one, merge_only, touch, wrote, isIn, okRec, hits, capsOf, xcaps, stripL, AVal.strip, freeL, AVal.free, fillR, chunks, mkV]
      by_cases c4 : s.buy < s.sell
      · simp [c1, c2, c3, c4] at er
        simp [xf24l0, hl, h3, h7, g1, hN, hi', hi2, hii, hlm, gm, u, c1, c2, c3, c4, er, xload, xlen, AVal.cells, AVal.one, put_next, new_next, Store.get_new, Store.get_put, put_get, setR, only_get, merge_get', only_next, merge_next, upTo_self, upTo_one, merge_only, touch, wrote, isIn, okRec, hits, capsOf, xcaps, stripL, AVal.strip, freeL, AVal.free, fillR, chunks, mkV]
      · simp [c1, c2, c3, c4] at er
        exact absurd er he
end
end Go.Proofs.Ytgijgcmcpgepaaa.Eng

/-
  DISPATCH: tasks that are checked, whole; small plants and tasks.
-/
namespace Go.Proofs.Ytgijgcmcpgepaaa.Eng
set_option linter.unusedSimpArgs false
set_option linter.unusedVariables false
def fewB (R : List Md) : Bool := decide (R.length ≤ 7) && R.all fun m => decide (m.nm.size ≤ 20)
theorem fewB_of {R : List Md} (h : fewB R = true) : R.length ≤ 7 ∧ ∀ s, s ∈ R → s.nm.size ≤ 1000 := by
  unfold fewB at h
  simp only [Bool.and_eq_true, decide_eq_true_eq, List.all_eq_true] at h
  exact ⟨h.1, fun s hs => by have := h.2 s hs; omega⟩
theorem LV.one {α : Type} {s : Nat} {enc : α → AVal} {L : List α} {v : AVal} (h : LV s enc L v) : v.one = true := by
  rcases h with rfl | ⟨rfl, _⟩ <;> rfl
section
variable {X : FuncId → Option XFunc} (hX : DxBCode X)
include hX
set_option maxHeartbeats 8000000 in
theorem w24 (lo hi : Int) {R : List Md} {v : AVal} (hv : LV 4 Md.enc R v) (hn : R.length ≤ 1000000) (hs : ∀ s, s ∈ R → s.nm.size ≤ 1000) (t : Tk) {H : List Hour} {w : AVal} (hw : LV 3 Hour.enc H w) (hm : H.length ≤ 1000000) (σ : Store) : Run X (.call 24) [plV lo hi v, tkV t w] σ = some (.ret, [.tup [.int .i64 (tkC lo hi R t H).1, .int .i64 (tkC lo hi R t H).2]], σ) := by
  have f1 := hv.free Md.fr
  have f2 := hw.free Hour.fr
  have f3 := plV_fr (lo := lo) (hi := hi) f1
  have f4 := tkV_fr (t := t) f2
  refine call2 (a := plV lo hi v) (b := tkV t w) (v := .tup [.int .i64 (tkC lo hi R t H).1, .int .i64 (tkC lo hi R t H).2]) hX.h24 (by rw [f3.2]; exact f3.1) (by rw [f4.2]; exact f4.1) (by decide) (fun tm hl h0 h1 => ?_) rfl σ
  rw [f3.2] at h0
  rw [f4.2] at h1
  have u0 := w85 hX lo hi hv hn hs
  unfold plV at h0 u0
  unfold tkV at h1
  replace hl : tm.length = 77 := hl
  have u := w33 hX.dxA
  have u2 := w86 hX
  obtain ⟨k1, k2⟩ := hv.len
  obtain ⟨k3, k4⟩ := hw.len
  have pr := tkate_ref lo hi R t H.length
  have hwr : IntKind.i64.wrap ((R.length : Int) - 1) = R.length - 1 := wrp (by omega) (by omega)
  unfold Gives tkC
  by_cases c0 : (plC lo hi R).2 = 0
  · rw [c0] at u0
    cases c1 : win t.vol lo hi
    · have hp : tkate lo hi R t H.length = 2 := by rw [pr]; simp [c0, c1]
      simp [xf24, hl, h0, h1, u0, u, f1, c1, hp, fillR, xload, AVal.cells, AVal.one, xresult, xrets, xret_t, Store.empty, Store.new, Store.put, Store.get, look, putL, setR, Store.only, Store.merge, touch, wrote, upTo, isIn, okRec, hits, capsOf, xcaps, stripL, AVal.strip, freeL, AVal.free, fillR, chunks, mkV, List.filter]
    by_cases c2 : 0 ≤ t.mode ∧ t.mode < R.length
    · have c2' : win t.mode 0 (R.length - 1) = true := win_iff.2 (by omega)
      cases c3 : win t.worth (-10000) 10000
      · have hp : tkate lo hi R t H.length = 2 := by rw [pr]; simp [c0, c1, c2, c3]
        simp [xf24, hl, h0, h1, u0, u, u2, f1, k1, k2, hwr, c1, c2', c3, hp, fillR, xload, AVal.cells, AVal.one, xresult, xrets, xret_t, Store.empty, Store.new, Store.put, Store.get, look, putL, setR, Store.only, Store.merge, touch, wrote, upTo, isIn, okRec, hits, capsOf, xcaps, stripL, AVal.strip, freeL, AVal.free, fillR, chunks, mkV, List.filter]
      by_cases d3 : H.length = 0
      · have hp : tkate lo hi R t H.length = 10 := by rw [pr]; simp [c0, c1, c2, c3, d3]
        obtain rfl : H = [] := List.eq_nil_of_length_eq_zero d3
        simp at hp
        simp [xf24, hl, h0, h1, u0, u, u2, f1, f2, k1, k2, k3, k4, hwr, c1, c2', c3, hp, fillR, xload, AVal.cells, AVal.one, xresult, xrets, xret_t, Store.empty, Store.new, Store.put, Store.get, look, putL, setR, Store.only, Store.merge, touch, wrote, upTo, isIn, okRec, hits, capsOf, xcaps, stripL, AVal.strip, freeL, AVal.free, fillR, chunks, mkV, List.filter]
      have d3'' : ¬ H = [] := by intro e; simp [e] at d3
      have d3' : ¬ (H.length : Int) = 0 := by omega
      by_cases d4 : 10 < H.length
      · have hp : tkate lo hi R t H.length = 8 := by rw [pr]; simp [c0, c1, c2, c3, d3, d3'', d4]
        have d4' : (10 : Int) < H.length := by omega
        simp [xf24, hl, h0, h1, u0, u, u2, f1, f2, k1, k2, k3, k4, hwr, c1, c2', c3, d3', d3'', d4', hp, fillR, xload, AVal.cells, AVal.one, xresult, xrets, xret_t, Store.empty, Store.new, Store.put, Store.get, look, putL, setR, Store.only, Store.merge, touch, wrote, upTo, isIn, okRec, hits, capsOf, xcaps, stripL, AVal.strip, freeL, AVal.free, fillR, chunks, mkV, List.filter]
      have hp : tkate lo hi R t H.length = 0 := by rw [pr]; simp [c0, c1, c2, c3, d3, d3'', d4]
      have d4' : ¬ (10 : Int) < H.length := by omega
      rw [if_pos hp]
      have eP : Ends (Run X (.code (XCode.cutP 7 xf24.body)) tm Store.empty) .normal fun tm' σ' => tm'.length = 77 ∧ XOpd.eval tm' (.t 3) = .ptr 1 0 ∧ XOpd.eval tm' (.t 7) = .int .i64 ((0 : Nat) : Int) ∧ σ'.get 1 = some (.cells [.int .i64 t.vol, .int .i64 t.mode, .int .i64 t.worth, w]) ∧ σ'.next = 0 + 2 := by
        simp [xf24, XCode.cutP, hl, h0, h1, u0, u, u2, f1, f2, k1, k2, k3, k4, hwr, c1, c2', c3, d3', d3'', d4', fillR, xload, AVal.cells, AVal.one, Store.empty, Store.new, Store.put, Store.get, look, putL, setR, Store.only, Store.merge, touch, wrote, upTo, isIn, okRec, hits, capsOf, xcaps, stripL, AVal.strip, freeL, AVal.free, fillR, chunks, mkV, List.filter]
      obtain ⟨o1, p1, p2, p3, p4, p5⟩ := out_of eP
      obtain ⟨q1, q2, q3⟩ := out_of (loop24 hX H hw hm H.length 0 (by omega) _ _ p1 p2 p3 p4 ⟨0, p5⟩)
      simp only [List.drop_zero] at q1 q3
      rw [Run_cut 7, o1, thenC_normal, show XCode.cutB 7 xf24.body = .block 0 (.loop xf24l0) from rfl, Run_block, q1]
      generalize outT X (.loop xf24l0) _ _ = tm3 at *
      generalize outS X (.loop xf24l0) _ _ = σ3 at *
      by_cases he : (fiE hourE H 0).2 = 0
      · have e1 : (fiE hourE H 0).1 = 0 := fiE_zero he
        simp [xf24, XCode.cutR, q2, he, e1, xresult, xrets, xret_t]
      · obtain ⟨r1, r2⟩ := q3 he
        simp [xf24, XCode.cutR, q2, he, r1, r2, xresult, xrets, xret_t]
    · have hp : tkate lo hi R t H.length = 6 := by rw [pr]; simp [c0, c1, c2]
      have c2' : win t.mode 0 (R.length - 1) = false := by
        cases e : win t.mode 0 (R.length - 1) with
        | false => rfl
        | true => have := win_iff.1 e; exact absurd (by omega) c2
      simp [xf24, hl, h0, h1, u0, u, u2, f1, k1, k2, hwr, c1, c2', hp, fillR, xload, AVal.cells, AVal.one, xresult, xrets, xret_t, Store.empty, Store.new, Store.put, Store.get, look, putL, setR, Store.only, Store.merge, touch, wrote, upTo, isIn, okRec, hits, capsOf, xcaps, stripL, AVal.strip, freeL, AVal.free, fillR, chunks, mkV, List.filter]
  · have hp : tkate lo hi R t H.length = (plC lo hi R).2 := by rw [pr]; simp [c0]
    simp [xf24, hl, h0, h1, u0, f1, c0, hp, fillR, xload, AVal.cells, AVal.one, xresult, xrets, xret_t, Store.empty, Store.new, Store.put, Store.get, look, putL, setR, Store.only, Store.merge, touch, wrote, upTo, isIn, okRec, hits, capsOf, xcaps, stripL, AVal.strip, freeL, AVal.free, fillR, chunks, mkV, List.filter]
theorem w32 (lo hi : Int) {R : List Md} {v : AVal} (hv : LV 4 Md.enc R v) (hn : R.length ≤ 1000000) (hs : ∀ s, s ∈ R → s.nm.size ≤ 1000) (t : Tk) {H : List Hour} {w : AVal} (hw : LV 3 Hour.enc H w) (hm : H.length ≤ 1000000) (σ : Store) : Run X (.call 32) [plV lo hi v, tkV t w] σ = some (.ret, [.int .i64 (tkC lo hi R t H).2], σ) := by
  have f1 := hv.free Md.fr
  have f2 := hw.free Hour.fr
  have f3 := plV_fr (lo := lo) (hi := hi) f1
  have f4 := tkV_fr (t := t) f2
  have u := w24 hX lo hi hv hn hs t hw hm
  refine call2 (a := plV lo hi v) (b := tkV t w) (v := .int .i64 (tkC lo hi R t H).2) hX.h32 (by rw [f3.2]; exact f3.1) (by rw [f4.2]; exact f4.1) (by decide) (fun tm hl h0 h1 => ?_) rfl σ
  rw [f3.2] at h0
  rw [f4.2] at h1
  unfold plV at h0 u
  unfold tkV at h1 u
  replace hl : tm.length = 14 := hl
  unfold Gives
  simp [xf32, hl, h0, h1, u, f1, f2, xload, AVal.cells, AVal.one, Store.empty, Store.new, Store.put, Store.get, look, putL, setR, Store.only, Store.merge, touch, wrote, upTo, isIn, okRec, hits, capsOf, xcaps, stripL, AVal.strip, freeL, AVal.free, fillR, chunks, mkV, List.filter]
omit hX in
/-- A task that is checked, as it is handed on. -/
def ptV (lo hi : Int) (v : AVal) (t : Tk) (w : AVal) : AVal := .agg [.int .i64 lo, .int .i64 hi, v, .int .i64 t.vol, .int .i64 t.mode, .int .i64 t.worth, w]
omit hX in
def pt0 : AVal := .agg [.int .i64 0, .int .i64 0, .nils, .int .i64 0, .int .i64 0, .int .i64 0, .nils]
omit hX in
theorem ptV_fr {lo hi : Int} {v : AVal} {t : Tk} {w : AVal} (h : v.free = true ∧ v.strip = v) (h' : w.free = true ∧ w.strip = w) : (ptV lo hi v t w).free = true ∧ (ptV lo hi v t w).strip = ptV lo hi v t w := by
  simp [ptV, AVal.free, freeL, AVal.strip, stripL, h, h']
theorem w89 (lo hi : Int) {R : List Md} {v : AVal} (hv : LV 4 Md.enc R v) (hn : R.length ≤ 1000000) (hs : ∀ s, s ∈ R → s.nm.size ≤ 1000) (t : Tk) {H : List Hour} {w : AVal} (hw : LV 3 Hour.enc H w) (hm : H.length ≤ 1000000) (σ : Store) : Run X (.call 89) [plV lo hi v, tkV t w] σ = some (.ret, [.tup [if (tkC lo hi R t H).2 = 0 then ptV lo hi v t w else pt0, .int .i64 (tkC lo hi R t H).2]], σ) := by
  have f1 := hv.free Md.fr
  have f2 := hw.free Hour.fr
  have f3 := plV_fr (lo := lo) (hi := hi) f1
  have f4 := tkV_fr (t := t) f2
  have f5 := ptV_fr (lo := lo) (hi := hi) (t := t) f1 f2
  have u := w17 hX lo hi hv (by omega) hs t hw (by omega)
  have key : Run X (.call 89) [plV lo hi v, tkV t w] σ = some (.ret, [(AVal.tup [if (tkC lo hi R t H).2 = 0 then ptV lo hi v t w else pt0, .int .i64 (tkC lo hi R t H).2]).strip], σ) := by
    refine call2 (a := plV lo hi v) (b := tkV t w) (v := .tup [if (tkC lo hi R t H).2 = 0 then ptV lo hi v t w else pt0, .int .i64 (tkC lo hi R t H).2]) hX.h89 (by rw [f3.2]; exact f3.1) (by rw [f4.2]; exact f4.1) (by decide) (fun tm hl h0 h1 => ?_) (by split <;> simp [AVal.strip, stripL, AVal.free, freeL, f5, pt0]) σ
    rw [f3.2] at h0
    rw [f4.2] at h1
    unfold plV at h0 u
    unfold tkV at h1 u
    unfold ptV pt0
    have g1 := hv.one
    have g2 := hw.one
    replace hl : tm.length = 22 := hl
    unfold Gives
    by_cases c : (tkC lo hi R t H).2 = 0
    · simp [xf89, hl, h0, h1, u, f1, f2, c, g1, g2, xload, AVal.cells, xresult, xrets, xret_t, xret_cn, Store.empty, Store.new, Store.put, Store.get, look, putL, setR, Store.only, Store.merge, touch, wrote, upTo, isIn, okRec, hits, capsOf, xcaps, stripL, AVal.strip, freeL, AVal.free, fillR, chunks, mkV, List.filter]
    · simp [xf89, hl, h0, h1, u, f1, f2, c, g1, g2, xload, AVal.cells, xresult, xrets, xret_t, xret_cn, Store.empty, Store.new, Store.put, Store.get, look, putL, setR, Store.only, Store.merge, touch, wrote, upTo, isIn, okRec, hits, capsOf, xcaps, stripL, AVal.strip, freeL, AVal.free, fillR, chunks, mkV, List.filter]
  rw [key]
  split <;> simp [AVal.strip, stripL, f5, pt0]
omit hX in
theorem loop13 (lo hi : Int) (L : List Md) {v : AVal} (hv : LV 4 Md.enc L v) (hn : L.length ≤ 1000000) : ∀ (k i : Nat), i + k = L.length → ∀ (tm : List AVal) (σ : Store), tm.length = 23 → XOpd.eval tm (.t 1) = .ptr 0 0 → XOpd.eval tm (.t 3) = .int .i64 i → σ.get 0 = some (.cells [.int .i64 lo, .int .i64 hi, v]) →
    Ends (Run X (.code (.loop xf13l0)) tm σ) (if (L.drop i).all (fun m => decide (m.nm.size ≤ 20)) then .exit 0 else .ret) fun tm' _ => tm'.length = 23 ∧ ((L.drop i).all (fun m => decide (m.nm.size ≤ 20)) = false → XOpd.eval tm' (.t 2) = .bool false)
  | 0, i, hk, tm, σ, hl, h1, h3, g0 => by
    have hi' : i = L.length := by omega
    subst hi'
    obtain ⟨k1, k2⟩ := hv.len
    rw [Run_loop]
    simp [xf13l0, hl, h1, h3, g0, k1, k2, xload]
  | k + 1, i, hk, tm, σ, hl, h1, h3, g0 => by
    have hi' : i < L.length := by omega
    have hii : (i : Int) < L.length := by omega
    have hd : L.drop i = L[i] :: L.drop (i + 1) := List.drop_eq_getElem_cons hi'
    have hw : IntKind.i64.wrap ((i : Int) + 1) = ((i + 1 : Nat) : Int) := by rw [wrap_i64] <;> omega
    have hvv : v = .list 4 (L.map Md.enc) none := hv.ne (by intro e; simp [e] at hi')
    obtain ⟨s, hm⟩ : ∃ s, s = L[i] := ⟨_, rfl⟩
    have gm : ∀ h, (L.map Md.enc)[i]'h = .agg [.str s.nm, .int .i64 s.ch, .int .i64 s.en, .int .i64 s.st] := fun h => by rw [List.getElem_map, ← hm]; rfl
    have hlm : (L.map Md.enc).length = L.length := by simp
    have hi2 : i < (L.map Md.enc).length := by rw [hlm]; exact hi'
    have g0' := g0
    rw [Run_loop, hd, ← hm]
    rw [hvv] at g0
    by_cases he : s.nm.size ≤ 20
    · have he' : ¬ (20 : Int) < s.nm.size := by omega
      have key : Ends (Run X (.code xf13l0) tm σ) .normal fun tm' σ' => tm'.length = 23 ∧ XOpd.eval tm' (.t 1) = .ptr 0 0 ∧ XOpd.eval tm' (.t 3) = .int .i64 ((i + 1 : Nat) : Int) ∧ σ'.get 0 = some (.cells [.int .i64 lo, .int .i64 hi, v]) := by
        rw [hvv]
        generalize L.map Md.enc = A at *
        simp [xf13l0, hl, h1, h3, g0, hi', hi2, hii, hlm, hw, gm, he', xload, xlen, AVal.cells, AVal.one, put_next, new_next, Store.get_new, Store.get_put, put_get, setR, only_get, merge_get', only_next, merge_next, upTo_self, upTo_one, merge_only, touch, wrote, isIn, okRec, hits, capsOf, xcaps, stripL, AVal.strip, freeL, AVal.free, fillR, chunks, mkV]
      obtain ⟨o1, p1, p2, p3, p4⟩ := out_of key
      rw [o1, thenC_normal]
      have := loop13 lo hi L hv hn k (i + 1) (by omega) _ _ p1 p2 p3 p4
      simpa only [List.all_cons, he, decide_true, Bool.true_and] using this
    · have he' : (20 : Int) < s.nm.size := by omega
      simp only [List.all_cons, he, decide_false, Bool.false_and, Bool.false_eq_true, if_false]
      generalize L.map Md.enc = A at *
      simp [xf13l0, hl, h1, h3, g0, hi', hi2, hii, hlm, gm, he', xload, xlen, AVal.cells, AVal.one, put_next, new_next, Store.get_new, Store.get_put, put_get, setR, only_get, merge_get', only_next, merge_next, upTo_self, upTo_one, merge_only, touch, wrote, isIn, okRec, hits, capsOf, xcaps, stripL, AVal.strip, freeL, AVal.free, fillR, chunks, mkV]
theorem w13 (lo hi : Int) {R : List Md} {v : AVal} (hv : LV 4 Md.enc R v) (σ : Store) : Run X (.call 13) [plV lo hi v] σ = some (.ret, [.bool (fewB R)], σ) := by
  have f1 := hv.free Md.fr
  have f3 := plV_fr (lo := lo) (hi := hi) f1
  refine call1 (a := plV lo hi v) (v := .bool (fewB R)) hX.h13 (by rw [f3.2]; exact f3.1) (by decide) (fun tm hl h0 => ?_) rfl σ
  rw [f3.2] at h0
  unfold plV at h0
  replace hl : tm.length = 23 := hl
  obtain ⟨k1, k2⟩ := hv.len
  unfold Gives fewB
  by_cases c : R.length ≤ 7
  · have c' : ¬ (7 : Int) < R.length := by omega
    have eP : Ends (Run X (.code (XCode.cutP 2 xf13.body)) tm Store.empty) .normal fun tm' σ' => tm'.length = 23 ∧ XOpd.eval tm' (.t 1) = .ptr 0 0 ∧ XOpd.eval tm' (.t 3) = .int .i64 ((0 : Nat) : Int) ∧ σ'.get 0 = some (.cells [.int .i64 lo, .int .i64 hi, v]) := by
      simp [xf13, XCode.cutP, hl, h0, k1, k2, c', xload, AVal.cells, AVal.one, Store.empty, Store.new, Store.put, Store.get, look, putL, setR, Store.only, Store.merge, touch, wrote, upTo, isIn, okRec, hits, capsOf, xcaps, stripL, AVal.strip, freeL, AVal.free, fillR, chunks, mkV, List.filter]
    obtain ⟨o1, p1, p2, p3, p4⟩ := out_of eP
    obtain ⟨q1, q2, q3⟩ := out_of (loop13 (X := X) lo hi R hv (by omega) R.length 0 (by omega) _ _ p1 p2 p3 p4)
    simp only [List.drop_zero] at q1 q3
    rw [Run_cut 2, o1, thenC_normal, show XCode.cutB 2 xf13.body = .block 0 (.loop xf13l0) from rfl, Run_block, q1]
    generalize outT X (.loop xf13l0) _ _ = tm3 at *
    generalize outS X (.loop xf13l0) _ _ = σ3 at *
    cases he : R.all (fun m => decide (m.nm.size ≤ 20)) with
    | true => simp [xf13, XCode.cutR, q2, c]
    | false =>
      have q3 := q3 he
      simp [xf13, XCode.cutR, q2, q3]
  · have c' : (7 : Int) < R.length := by omega
    simp [xf13, hl, h0, k1, k2, c, c', xload, AVal.cells, AVal.one, Store.empty, Store.new, Store.put, Store.get, look, putL, setR, Store.only, Store.merge, touch, wrote, upTo, isIn, okRec, hits, capsOf, xcaps, stripL, AVal.strip, freeL, AVal.free, fillR, chunks, mkV, List.filter]
theorem w14 (t : Tk) {H : List Hour} {w : AVal} (hw : LV 3 Hour.enc H w) (σ : Store) : Run X (.call 14) [tkV t w] σ = some (.ret, [.bool (decide (H.length ≤ 12))], σ) := by
  have f2 := hw.free Hour.fr
  have f4 := tkV_fr (t := t) f2
  refine call1 (a := tkV t w) (v := .bool (decide (H.length ≤ 12))) hX.h14 (by rw [f4.2]; exact f4.1) (by decide) (fun tm hl h0 => ?_) rfl σ
  rw [f4.2] at h0
  unfold tkV at h0
  replace hl : tm.length = 7 := hl
  obtain ⟨k1, k2⟩ := hw.len
  unfold Gives
  have e : ((H.length : Int) ≤ 12) ↔ H.length ≤ 12 := by omega
  simp [xf14, hl, h0, k1, k2, e, xload, AVal.cells, AVal.one, Store.empty, Store.new, Store.put, Store.get, look, putL, setR, Store.only, Store.merge, touch, wrote, upTo, isIn, okRec, hits, capsOf, xcaps, stripL, AVal.strip, freeL, AVal.free, fillR, chunks, mkV, List.filter]
end
end Go.Proofs.Ytgijgcmcpgepaaa.Eng

/-
  DISPATCH: plans; mathematics.
-/
namespace Go.Proofs.Ytgijgcmcpgepaaa.Eng
set_option linter.unusedSimpArgs false
set_option linter.unusedVariables false
def md0 : Md := ⟨⟨#[]⟩, 0, 0, 0⟩
def hr0 : Hour := ⟨0, 0, 0⟩
/-- The volume after so many hours. -/
def vS (R : List Md) (t : Tk) (H : List Hour) (P : List Int) : Nat → Int
  | 0 => t.vol
  | i + 1 => vS R t H P i + (H.getD i hr0).inf + (R.getD (P.getD i 0).toNat md0).ch
def vL (R : List Md) (t : Tk) (H : List Hour) (P : List Int) (n : Nat) : List Int := (List.range (n + 1)).map (vS R t H P)
theorem vL_len (R : List Md) (t : Tk) (H : List Hour) (P : List Int) (n : Nat) : (vL R t H P n).length = n + 1 := by simp [vL]
theorem vL_succ (R : List Md) (t : Tk) (H : List Hour) (P : List Int) (n : Nat) : vL R t H P (n + 1) = vL R t H P n ++ [vS R t H P (n + 1)] := by simp [vL, List.range_succ]
theorem vL_get (R : List Md) (t : Tk) (H : List Hour) (P : List Int) {n i : Nat} (h : i < n + 1) : (vL R t H P n).getD i 0 = vS R t H P i := by simp [vL, h]
/-- A task that is valid. -/
structure TIn (lo hi : Int) (R : List Md) (t : Tk) (H : List Hour) : Prop where
  l0 : 0 ≤ lo
  h0 : hi ≤ 1000000
  lh : lo ≤ hi
  rn : R.length ≤ 5
  v0 : lo ≤ t.vol
  v1 : t.vol ≤ hi
  m0 : 0 ≤ t.mode
  m1 : t.mode < R.length
  w0 : -10000 ≤ t.worth
  w1 : t.worth ≤ 10000
  hn : H.length ≤ 10
  hz : 0 < H.length
  md : ∀ k, -10000 ≤ (R.getD k md0).ch ∧ (R.getD k md0).ch ≤ 10000 ∧ -10000 ≤ (R.getD k md0).en ∧ (R.getD k md0).en ≤ 10000 ∧ 0 ≤ (R.getD k md0).st ∧ (R.getD k md0).st ≤ 10000
  hr : ∀ k, -10000 ≤ (H.getD k hr0).buy ∧ (H.getD k hr0).buy ≤ 10000 ∧ -10000 ≤ (H.getD k hr0).sell ∧ (H.getD k hr0).sell ≤ 10000 ∧ -10000 ≤ (H.getD k hr0).inf ∧ (H.getD k hr0).inf ≤ 10000
theorem mdF_all : ∀ {l : List Md} {i : Nat} {K : List ByteArray}, (mdF K l i).2 = 0 → ∀ m, m ∈ l → win m.ch (-10000) 10000 = true ∧ win m.en (-10000) 10000 = true ∧ win m.st 0 10000 = true
  | [], _, _, _, m, hm => by cases hm
  | s :: l, i, K, h, m, hm => by
    unfold mdF at h
    by_cases c : modeE K s = 0
    · simp only [c, if_true] at h
      rcases List.mem_cons.1 hm with rfl | hm
      · rw [modeE_ref] at c
        cases c1 : win m.ch (-10000) 10000 <;> cases c2 : win m.en (-10000) 10000 <;> cases c3 : win m.st 0 10000 <;> cases c4 : nameB m.nm <;> cases c5 : hasT m.nm K <;> simp [c1, c2, c3, c4, c5] at c
        exact ⟨rfl, rfl, rfl⟩
      · exact mdF_all h m hm
    · simp [c] at h
theorem tin_of {lo hi : Int} {R : List Md} {t : Tk} {H : List Hour} (h : (tkC lo hi R t H).2 = 0) : TIn lo hi R t H := by
  have hk : tkate lo hi R t H.length = 0 ∧ (fiE hourE H 0).2 = 0 := by
    unfold tkC at h
    split at h
    · rename_i c; exact ⟨c, h⟩
    · rename_i c; exact absurd h c
  obtain ⟨h1, h2⟩ := hk
  rw [tkate_ref] at h1
  have hp : (plC lo hi R).2 = 0 := by
    by_cases c : (plC lo hi R).2 = 0
    · exact c
    · rw [if_neg c] at h1; exact h1
  rw [if_pos hp] at h1
  have hpl : plate lo hi R.length = 0 ∧ (mdF [] R 0).2 = 0 := by
    unfold plC at hp
    split at hp
    · rename_i c; exact ⟨c, hp⟩
    · rename_i c; exact absurd hp c
  obtain ⟨p1, p2⟩ := hpl
  rw [plate_ref] at p1
  cases c1 : win lo 0 1000000 with
  | false => simp [c1] at p1
  | true =>
  cases c2 : win hi 0 1000000 with
  | false => simp [c1, c2] at p1
  | true =>
  simp only [c1, c2, Bool.and_self, if_true] at p1
  have b1 := win_iff.1 c1
  have b2 := win_iff.1 c2
  by_cases d1 : hi < lo
  · simp [d1] at p1
  by_cases d2 : 40 ≤ hi - lo
  · simp [d1, d2] at p1
  by_cases d3 : R.length = 0
  · simp [d1, d2, d3] at p1
  by_cases d4 : 5 < R.length
  · rw [if_neg d1, if_neg d2, if_neg d3, if_pos d4] at p1; omega
  cases c3 : win t.vol lo hi with
  | false => simp [c3] at h1
  | true =>
  have b3 := win_iff.1 c3
  by_cases d5 : 0 ≤ t.mode ∧ t.mode < R.length
  · cases c4 : win t.worth (-10000) 10000 with
    | false => simp [c3, d5, c4] at h1
    | true =>
    have b4 := win_iff.1 c4
    by_cases d6 : H.length = 0
    · simp [c3, d5, c4, d6] at h1
    by_cases d7 : 10 < H.length
    · rw [if_pos c3, if_pos d5, if_pos c4, if_neg d6, if_pos d7] at h1; omega
    refine ⟨b1.1, b2.2, by omega, by omega, b3.1, b3.2, d5.1, d5.2, b4.1, b4.2, by omega, by omega, fun k => ?_, fun k => ?_⟩
    · by_cases hk : k < R.length
      · have e : R.getD k md0 = R[k] := by simp [hk]
        rw [e]
        have := mdF_all p2 R[k] (List.getElem_mem hk)
        have q1 := win_iff.1 this.1
        have q2 := win_iff.1 this.2.1
        have q3 := win_iff.1 this.2.2
        omega
      · have e : R.getD k md0 = md0 := by simp [List.getD_eq_getElem?_getD, List.getElem?_eq_none (Nat.le_of_not_lt hk)]
        rw [e]; unfold md0; simp
    · by_cases hk : k < H.length
      · have e : H.getD k hr0 = H[k] := by simp [hk]
        rw [e]
        have := fiE_all h2 H[k] (List.getElem_mem hk)
        rw [hourE_ref] at this
        cases q1 : win H[k].buy (-10000) 10000 <;> cases q2 : win H[k].sell (-10000) 10000 <;> cases q3 : win H[k].inf (-10000) 10000 <;> simp [q1, q2, q3] at this
        have q1 := win_iff.1 q1
        have q2 := win_iff.1 q2
        have q3 := win_iff.1 q3
        omega
      · have e : H.getD k hr0 = hr0 := by simp [List.getD_eq_getElem?_getD, List.getElem?_eq_none (Nat.le_of_not_lt hk)]
        rw [e]; unfold hr0; simp
  · simp [c3, d5] at h1
/-- A plan of a valid task, in which all modes exist. -/
structure PIn (R : List Md) (H : List Hour) (P : List Int) : Prop where
  n : P.length = H.length
  p : ∀ i, i < P.length → 0 ≤ P.getD i 0 ∧ P.getD i 0 < R.length
theorem vS_in {lo hi : Int} {R : List Md} {t : Tk} {H : List Hour} (h : TIn lo hi R t H) (P : List Int) : ∀ i : Nat, -((i : Int) * 20000) ≤ vS R t H P i ∧ vS R t H P i ≤ 1000000 + (i : Int) * 20000
  | 0 => by have := h.l0; have := h.h0; have := h.v0; have := h.v1; show -(((0 : Nat) : Int) * 20000) ≤ t.vol ∧ t.vol ≤ 1000000 + ((0 : Nat) : Int) * 20000; omega
  | i + 1 => by
    have ih := vS_in h P i
    have a := h.md (P.getD i 0).toNat
    have b := h.hr i
    show -(((i + 1 : Nat) : Int) * 20000) ≤ vS R t H P i + (H.getD i hr0).inf + (R.getD (P.getD i 0).toNat md0).ch ∧ vS R t H P i + (H.getD i hr0).inf + (R.getD (P.getD i 0).toNat md0).ch ≤ 1000000 + ((i + 1 : Nat) : Int) * 20000
    omega
/-- The revenue of an hour in a mode behind another one. -/
def rev (m : Md) (h : Hour) (mode before : Int) : Int := (if 0 < m.en then m.en * h.sell else m.en * h.buy) - (if mode = before then 0 else m.st)
def bfS (t : Tk) (P : List Int) : Nat → Int
  | 0 => t.mode
  | i + 1 => P.getD i 0
def rS (R : List Md) (t : Tk) (H : List Hour) (P : List Int) : Nat → Int
  | 0 => 0
  | i + 1 => rS R t H P i + rev (R.getD (P.getD i 0).toNat md0) (H.getD i hr0) (P.getD i 0) (bfS t P i)
def sS (t : Tk) (P : List Int) : Nat → Int
  | 0 => 0
  | i + 1 => sS t P i + (if P.getD i 0 = bfS t P i then 0 else 1)
theorem mul_in {a b : Int} (ha : -10000 ≤ a ∧ a ≤ 10000) (hb : -10000 ≤ b ∧ b ≤ 10000) : -100000000 ≤ a * b ∧ a * b ≤ 100000000 := by
  have key : ∀ a b : Int, 0 ≤ a → a ≤ 10000 → 0 ≤ b → b ≤ 10000 → 0 ≤ a * b ∧ a * b ≤ 100000000 := fun a b a0 a1 b0 b1 => by
    have h1 := Int.mul_nonneg a0 b0
    have h2 : a * b ≤ 10000 * b := Int.mul_le_mul_of_nonneg_right a1 b0
    omega
  rcases Int.le_total 0 a with c | c <;> rcases Int.le_total 0 b with d | d
  · have := key a b c ha.2 d hb.2; omega
  · have := key a (-b) c ha.2 (by omega) (by omega); rw [Int.mul_neg] at this; omega
  · have := key (-a) b (by omega) (by omega) d hb.2; rw [Int.neg_mul] at this; omega
  · have := key (-a) (-b) (by omega) (by omega) (by omega) (by omega); rw [Int.neg_mul, Int.mul_neg, Int.neg_neg] at this; omega
theorem rev_in {lo hi : Int} {R : List Md} {t : Tk} {H : List Hour} (h : TIn lo hi R t H) (k j : Nat) (mode before : Int) : -100010000 ≤ rev (R.getD k md0) (H.getD j hr0) mode before ∧ rev (R.getD k md0) (H.getD j hr0) mode before ≤ 100010000 := by
  have a := h.md k
  have b := h.hr j
  have m1 := mul_in (a := (R.getD k md0).en) (b := (H.getD j hr0).sell) (by omega) (by omega)
  have m2 := mul_in (a := (R.getD k md0).en) (b := (H.getD j hr0).buy) (by omega) (by omega)
  unfold rev
  split <;> split <;> omega
theorem rS_in {lo hi : Int} {R : List Md} {t : Tk} {H : List Hour} (h : TIn lo hi R t H) (P : List Int) : ∀ i : Nat, -((i : Int) * 100010000) ≤ rS R t H P i ∧ rS R t H P i ≤ (i : Int) * 100010000
  | 0 => by simp [rS]
  | i + 1 => by
    have ih := rS_in h P i
    have r := rev_in h (P.getD i 0).toNat i (P.getD i 0) (bfS t P i)
    unfold rS
    omega
theorem sS_in (t : Tk) (P : List Int) : ∀ i : Nat, 0 ≤ sS t P i ∧ sS t P i ≤ (i : Int)
  | 0 => by simp [sS]
  | i + 1 => by
    have ih := sS_in t P i
    unfold sS
    split <;> omega
end Go.Proofs.Ytgijgcmcpgepaaa.Eng

/-
  DISPATCH: hours of plans.
-/
namespace Go.Proofs.Ytgijgcmcpgepaaa.Eng
set_option linter.unusedSimpArgs false
set_option linter.unusedVariables false
theorem md_get {R : List Md} {k : Nat} (hk : k < R.length) {d : Md} (hd : R.getD k md0 = d) : ∀ h, (R.map Md.enc)[k]'h = .agg [.str d.nm, .int .i64 d.ch, .int .i64 d.en, .int .i64 d.st] := fun h => by
  have : R[k] = d := by rw [← hd]; simp [hk]
  rw [List.getElem_map, this]; rfl
theorem hr_get {H : List Hour} {k : Nat} (hk : k < H.length) {d : Hour} (hd : H.getD k hr0 = d) : ∀ h, (H.map Hour.enc)[k]'h = .agg [.int .i64 d.buy, .int .i64 d.sell, .int .i64 d.inf] := fun h => by
  have : H[k] = d := by rw [← hd]; simp [hk]
  rw [List.getElem_map, this]; rfl
section
variable {X : FuncId → Option XFunc} (hX : DxCCode X)
include hX
set_option maxHeartbeats 4000000 in
theorem w122 {lo hi : Int} {R : List Md} {v : AVal} (hv : LV 4 Md.enc R v) {t : Tk} {H : List Hour} {w : AVal} (hw : LV 3 Hour.enc H w) {i : Nat} (hi' : i < H.length) {k : Nat} (hk : k < R.length) (x : Int) (b1 : IntKind.i64.wrap (x + (H.getD i hr0).inf) = x + (H.getD i hr0).inf) (b2 : IntKind.i64.wrap (x + (H.getD i hr0).inf + (R.getD k md0).ch) = x + (H.getD i hr0).inf + (R.getD k md0).ch) (σ : Store) :
    Run X (.call 122) [ptV lo hi v t w, .int .i64 i, .int .i64 x, .int .i64 k] σ = some (.ret, [.int .i64 (x + (H.getD i hr0).inf + (R.getD k md0).ch)], σ) := by
  have f1 := hv.free Md.fr
  have f2 := hw.free Hour.fr
  have f5 := ptV_fr (lo := lo) (hi := hi) (t := t) f1 f2
  refine call4 (a := ptV lo hi v t w) (b := .int .i64 i) (c := .int .i64 x) (d := .int .i64 k) (v := .int .i64 (x + (H.getD i hr0).inf + (R.getD k md0).ch)) hX.h122 (by rw [f5.2]; exact f5.1) rfl rfl rfl (by decide) (fun tm hl h0 h1 h2 h3 => ?_) rfl σ
  rw [f5.2] at h0
  simp only [AVal.strip] at h1 h2 h3
  unfold ptV at h0
  replace hl : tm.length = 27 := hl
  have e1 := hv.ne (show R ≠ [] by intro e; simp [e] at hk)
  have e2 := hw.ne (show H ≠ [] by intro e; simp [e] at hi')
  obtain ⟨d, hd⟩ : ∃ d, R.getD k md0 = d := ⟨_, rfl⟩
  obtain ⟨e, he⟩ : ∃ e, H.getD i hr0 = e := ⟨_, rfl⟩
  have g1 := md_get hk hd
  have g2 := hr_get hi' he
  rw [he] at b1 b2 ⊢
  rw [hd] at b2 ⊢
  rw [e1, e2] at h0
  have l1 : (R.map Md.enc).length = R.length := by simp
  have l2 : (H.map Hour.enc).length = H.length := by simp
  generalize R.map Md.enc = A at *
  generalize H.map Hour.enc = B at *
  have i1 : k < A.length := by omega
  have i2 : i < B.length := by omega
  unfold Gives
  simp [xf122, hl, h0, h1, h2, h3, hk, hi', i1, i2, l1, l2, g1, g2, b1, b2, xload, xlen, AVal.cells, AVal.one, Store.empty, Store.new, Store.put, Store.get, look, putL, setR, Store.only, Store.merge, touch, wrote, upTo, isIn, okRec, hits, capsOf, xcaps, stripL, AVal.strip, freeL, AVal.free, fillR, chunks, mkV, List.filter]
omit hX in
/-- What a revenue's computation needs. -/
structure RvOk (m : Md) (h : Hour) : Prop where
  w1 : IntKind.i64.wrap (m.en * h.buy) = m.en * h.buy
  w2 : IntKind.i64.wrap (m.en * h.sell) = m.en * h.sell
  w3 : IntKind.i64.wrap (m.en * h.buy - m.st) = m.en * h.buy - m.st
  w4 : IntKind.i64.wrap (m.en * h.sell - m.st) = m.en * h.sell - m.st
omit hX in
theorem rv_ok {lo hi : Int} {R : List Md} {t : Tk} {H : List Hour} (h : TIn lo hi R t H) (k j : Nat) : RvOk (R.getD k md0) (H.getD j hr0) := by
  have a := h.md k
  have b := h.hr j
  have m1 := mul_in (a := (R.getD k md0).en) (b := (H.getD j hr0).sell) (by omega) (by omega)
  have m2 := mul_in (a := (R.getD k md0).en) (b := (H.getD j hr0).buy) (by omega) (by omega)
  exact ⟨wrp (by omega) (by omega), wrp (by omega) (by omega), wrp (by omega) (by omega), wrp (by omega) (by omega)⟩
set_option maxHeartbeats 8000000 in
theorem w123 {lo hi : Int} {R : List Md} {v : AVal} (hv : LV 4 Md.enc R v) {t : Tk} {H : List Hour} {w : AVal} (hw : LV 3 Hour.enc H w) {i : Nat} (hi' : i < H.length) {k : Nat} (hk : k < R.length) (bf : Int) (ok : RvOk (R.getD k md0) (H.getD i hr0)) (σ : Store) :
    Run X (.call 123) [ptV lo hi v t w, .int .i64 i, .int .i64 bf, .int .i64 k] σ = some (.ret, [.int .i64 (rev (R.getD k md0) (H.getD i hr0) k bf)], σ) := by
  have f1 := hv.free Md.fr
  have f2 := hw.free Hour.fr
  have f5 := ptV_fr (lo := lo) (hi := hi) (t := t) f1 f2
  refine call4 (a := ptV lo hi v t w) (b := .int .i64 i) (c := .int .i64 bf) (d := .int .i64 k) (v := .int .i64 (rev (R.getD k md0) (H.getD i hr0) k bf)) hX.h123 (by rw [f5.2]; exact f5.1) rfl rfl rfl (by decide) (fun tm hl h0 h1 h2 h3 => ?_) rfl σ
  rw [f5.2] at h0
  simp only [AVal.strip] at h1 h2 h3
  unfold ptV at h0
  replace hl : tm.length = 46 := hl
  have e1 := hv.ne (show R ≠ [] by intro e; simp [e] at hk)
  have e2 := hw.ne (show H ≠ [] by intro e; simp [e] at hi')
  obtain ⟨d, hd⟩ : ∃ d, R.getD k md0 = d := ⟨_, rfl⟩
  obtain ⟨e, he⟩ : ∃ e, H.getD i hr0 = e := ⟨_, rfl⟩
  have g1 := md_get hk hd
  have g2 := hr_get hi' he
  rw [hd, he] at ok ⊢
  rw [e1, e2] at h0
  have l1 : (R.map Md.enc).length = R.length := by simp
  have l2 : (H.map Hour.enc).length = H.length := by simp
  generalize R.map Md.enc = A at *
  generalize H.map Hour.enc = B at *
  have i1 : k < A.length := by omega
  have i2 : i < B.length := by omega
  obtain ⟨w1, w2, w3, w4⟩ := ok
  unfold Gives rev
  by_cases c2 : (k : Int) = bf
  · subst c2
    by_cases c1 : 0 < d.en <;> simp [xf123, hl, h0, h1, h2, h3, hk, hi', i1, i2, l1, l2, g1, g2, w1, w2, w3, w4, c1, xload, xlen, AVal.cells, AVal.one, Store.empty, Store.new, Store.put, Store.get, look, putL, setR, Store.only, Store.merge, touch, wrote, upTo, isIn, okRec, hits, capsOf, xcaps, stripL, AVal.strip, freeL, AVal.free, fillR, chunks, mkV, List.filter]
  by_cases c1 : 0 < d.en <;> simp [xf123, hl, h0, h1, h2, h3, hk, hi', i1, i2, l1, l2, g1, g2, w1, w2, w3, w4, c1, c2, xload, xlen, AVal.cells, AVal.one, Store.empty, Store.new, Store.put, Store.get, look, putL, setR, Store.only, Store.merge, touch, wrote, upTo, isIn, okRec, hits, capsOf, xcaps, stripL, AVal.strip, freeL, AVal.free, fillR, chunks, mkV, List.filter]
theorem w130 (lo hi : Int) {R : List Md} {v : AVal} (hv : LV 4 Md.enc R v) (x : Int) (σ : Store) : Run X (.call 130) [plV lo hi v, .int .i64 x] σ = some (.ret, [.bool (win x lo hi)], σ) := by
  have f1 := hv.free Md.fr
  have f3 := plV_fr (lo := lo) (hi := hi) f1
  refine call2 (a := plV lo hi v) (b := .int .i64 x) (v := .bool (win x lo hi)) hX.h130 (by rw [f3.2]; exact f3.1) rfl (by decide) (fun tm hl h0 h1 => ?_) rfl σ
  rw [f3.2] at h0
  simp only [AVal.strip] at h1
  unfold plV at h0
  replace hl : tm.length = 17 := hl
  unfold Gives win
  by_cases c1 : lo ≤ x <;> simp [xf130, hl, h0, h1, c1, xload, AVal.cells, AVal.one, Store.empty, Store.new, Store.put, Store.get, look, putL, setR, Store.only, Store.merge, touch, wrote, upTo, isIn, okRec, hits, capsOf, xcaps, stripL, AVal.strip, freeL, AVal.free, fillR, chunks, mkV, List.filter]
set_option maxHeartbeats 8000000 in
theorem w88 {lo hi : Int} {R : List Md} {v : AVal} (hv : LV 4 Md.enc R v) (h : Hour) {k : Nat} (hk : k < R.length) (bf : Int) (ok : RvOk (R.getD k md0) h) (σ : Store) :
    Run X (.call 88) [plV lo hi v, .agg [.int .i64 h.buy, .int .i64 h.sell, .int .i64 h.inf], .int .i64 k, .int .i64 bf] σ = some (.ret, [.int .i64 (rev (R.getD k md0) h k bf)], σ) := by
  have f1 := hv.free Md.fr
  have f3 := plV_fr (lo := lo) (hi := hi) f1
  refine call4 (a := plV lo hi v) (b := .agg [.int .i64 h.buy, .int .i64 h.sell, .int .i64 h.inf]) (c := .int .i64 k) (d := .int .i64 bf) (v := .int .i64 (rev (R.getD k md0) h k bf)) hX.h88 (by rw [f3.2]; exact f3.1) rfl rfl rfl (by decide) (fun tm hl h0 h1 h2 h3 => ?_) rfl σ
  rw [f3.2] at h0
  simp only [AVal.strip, stripL] at h1 h2 h3
  unfold plV at h0
  replace hl : tm.length = 37 := hl
  have e1 := hv.ne (show R ≠ [] by intro e; simp [e] at hk)
  obtain ⟨d, hd⟩ : ∃ d, R.getD k md0 = d := ⟨_, rfl⟩
  have g1 := md_get hk hd
  rw [hd] at ok ⊢
  rw [e1] at h0
  have l1 : (R.map Md.enc).length = R.length := by simp
  generalize R.map Md.enc = A at *
  have i1 : k < A.length := by omega
  obtain ⟨w1, w2, w3, w4⟩ := ok
  unfold Gives rev
  by_cases c2 : (k : Int) = bf
  · subst c2
    by_cases c1 : 0 < d.en <;> simp [xf88, hl, h0, h1, h2, h3, hk, i1, l1, g1, w1, w2, w3, w4, c1, xload, xlen, AVal.cells, AVal.one, Store.empty, Store.new, Store.put, Store.get, look, putL, setR, Store.only, Store.merge, touch, wrote, upTo, isIn, okRec, hits, capsOf, xcaps, stripL, AVal.strip, freeL, AVal.free, fillR, chunks, mkV, List.filter]
  by_cases c1 : 0 < d.en <;> simp [xf88, hl, h0, h1, h2, h3, hk, i1, l1, g1, w1, w2, w3, w4, c1, c2, xload, xlen, AVal.cells, AVal.one, Store.empty, Store.new, Store.put, Store.get, look, putL, setR, Store.only, Store.merge, touch, wrote, upTo, isIn, okRec, hits, capsOf, xcaps, stripL, AVal.strip, freeL, AVal.free, fillR, chunks, mkV, List.filter]
end
end Go.Proofs.Ytgijgcmcpgepaaa.Eng

/-
  DISPATCH: volumes of plans.
-/
namespace Go.Proofs.Ytgijgcmcpgepaaa.Eng
set_option linter.unusedSimpArgs false
set_option linter.unusedVariables false
def plnV (lo hi : Int) (v : AVal) (t : Tk) (w p : AVal) : AVal := .agg [.int .i64 lo, .int .i64 hi, v, .int .i64 t.vol, .int .i64 t.mode, .int .i64 t.worth, w, p]
theorem plnV_fr {lo hi : Int} {v : AVal} {t : Tk} {w p : AVal} (h : v.free = true ∧ v.strip = v) (h' : w.free = true ∧ w.strip = w) (h'' : p.free = true ∧ p.strip = p) : (plnV lo hi v t w p).free = true ∧ (plnV lo hi v t w p).strip = plnV lo hi v t w p := by
  simp [plnV, AVal.free, freeL, AVal.strip, stripL, h, h', h'']
def plCells (lo hi : Int) (v : AVal) (t : Tk) (w p : AVal) : List AVal := [.int .i64 lo, .int .i64 hi, v, .int .i64 t.vol, .int .i64 t.mode, .int .i64 t.worth, w, p]
theorem outG_list {e s : Nat} {σ : Store} {m0 : Nat} {ys : List AVal} {v : AVal} (h : OutG e s σ m0 ys v) (hn : ys ≠ []) : ∃ j, m0 ≤ j ∧ j < σ.next ∧ v = .list s ys (some j) ∧ σ.get j = some (.tok e s ys.length) := by
  rcases h with ⟨_, h⟩ | ⟨j, h1, h2, h3, h4, _⟩
  · exact absurd h hn
  · exact ⟨j, h1, h2, h3, h4⟩
theorem p_nat {R : List Md} {H : List Hour} {P : List Int} (h : PIn R H P) {i : Nat} (hi : i < P.length) : ∃ k : Nat, P[i] = (k : Int) ∧ k < R.length ∧ (P.getD i 0).toNat = k ∧ P.getD i 0 = (k : Int) := by
  have h1 := h.p i hi
  have e : P.getD i 0 = P[i] := by simp [hi]
  exact ⟨(P.getD i 0).toNat, by omega, by omega, rfl, by omega⟩
section
variable {X : FuncId → Option XFunc} (hX : DxCCode X)
include hX
omit hX in
def I81 (lo hi : Int) (v : AVal) (R : List Md) (t : Tk) (H : List Hour) (w : AVal) (P : List Int) (p : AVal) (i : Nat) (tm : List AVal) (σ : Store) : Prop :=
  tm.length = 33 ∧ XOpd.eval tm (.t 1) = .ptr 0 0 ∧ XOpd.eval tm (.t 12) = p ∧ XOpd.eval tm (.t 13) = .int .i64 P.length ∧ XOpd.eval tm (.t 14) = .int .i64 i ∧ σ.get 0 = some (.cells (plCells lo hi v t w p)) ∧ 1 ≤ σ.next ∧ OutG 3 1 σ 1 (ints (vL R t H P i)) (XOpd.eval tm (.t 3))
set_option maxHeartbeats 8000000 in
theorem round81 {lo hi : Int} {R : List Md} {v : AVal} (hv : LV 4 Md.enc R v) {t : Tk} {H : List Hour} {w : AVal} (hw : LV 3 Hour.enc H w) {P : List Int} {p : AVal} (hp : IntV P p) (ht : TIn lo hi R t H) (hP : PIn R H P) (i : Nat) (hi' : i < P.length) (tm : List AVal) (σ : Store) (hI : I81 lo hi v R t H w P p i tm σ) : Ends (Run X (.code xf81l0) tm σ) .normal (I81 lo hi v R t H w P p (i + 1)) := by
  obtain ⟨hl, h1, h12, h13, h14, g0, nx, ho⟩ := hI
  have hiw : IntKind.i64.wrap ((i : Int) + 1) = ((i + 1 : Nat) : Int) := by have := hP.n; have := ht.hn; rw [wrap_i64] <;> omega
  obtain ⟨k, pk, kR, pt, pg⟩ := p_nat hP hi'
  have hpp : p = .list 1 (ints P) none := hp.ne (by intro e; simp [e] at hi')
  have hiH : i < H.length := by have := hP.n; omega
  have b := vS_in ht P i
  have bm := ht.md k
  have bh := ht.hr i
  have hnn := ht.hn
  have hPn := hP.n
  have u := w122 hX hv hw (lo := lo) (hi := hi) (t := t) hiH kR (vS R t H P i) (wrp (by omega) (by omega)) (wrp (by omega) (by omega))
  have eS : vS R t H P (i + 1) = vS R t H P i + (H.getD i hr0).inf + (R.getD k md0).ch := by show vS R t H P i + (H.getD i hr0).inf + (R.getD (P.getD i 0).toNat md0).ch = _; rw [pt]
  have eF : ints (vL R t H P (i + 1)) = ints (vL R t H P i) ++ [.int .i64 (vS R t H P (i + 1))] := by rw [vL_succ, ints_app]
  rw [← eS] at u
  have gp : ∀ h, (ints P)[i]'h = .int .i64 (k : Int) := fun h => by simp [ints, pk]
  have gV : ∀ h, (ints (vL R t H P i))[i]'h = .int .i64 (vS R t H P i) := fun h => by
    have e := vL_get R t H P (n := i) (i := i) (by omega)
    have hk3 : i < (vL R t H P i).length := by rw [vL_len]; omega
    have e' : (vL R t H P i)[i] = vS R t H P i := by simpa [hk3] using e
    simp [ints, e']
  have lP := ints_len P
  have lV := ints_len (vL R t H P i)
  rw [vL_len] at lV
  have hne : ints (vL R t H P i) ≠ [] := by intro e; rw [e] at lV; simp at lV
  obtain ⟨j, j1, j2, j3, j4⟩ := outG_list ho hne
  have f1 := hv.free Md.fr
  have f2 := hw.free Hour.fr
  unfold ptV at u
  unfold I81
  rw [eF]
  rw [hpp] at h12 g0 ⊢
  unfold plCells at *
  generalize vS R t H P (i + 1) = x1 at *
  generalize vS R t H P i = x0 at *
  generalize ints (vL R t H P i) = V at *
  generalize ints P = Q at *
  obtain ⟨N, hN⟩ : ∃ N, σ.next = j + N + 1 := ⟨σ.next - j - 1, by omega⟩
  have z1 : ¬ j = 0 := by omega
  have z2 : ¬ 0 = j := by omega
  have z3 : ¬ j = j + N + 1 := by omega
  have z4 : ¬ j + N + 1 = j := by omega
  have i1 : i < Q.length := by omega
  have i2 : i < V.length := by omega
  have b1 : (i + 1 + 1) * 8 ≤ 1000000000000 := by omega
  have b2 : i + 1 + 1 ≤ 1000000000000 := by omega
  have e : Ends (Run X (.code xf81l0) tm σ) .normal fun tm' σ' => tm'.length = 33 ∧ XOpd.eval tm' (.t 1) = .ptr 0 0 ∧ XOpd.eval tm' (.t 12) = .list 1 Q none ∧ XOpd.eval tm' (.t 13) = .int .i64 P.length ∧ XOpd.eval tm' (.t 14) = .int .i64 ((i + 1 : Nat) : Int) ∧ σ'.get 0 = some (.cells [.int .i64 lo, .int .i64 hi, v, .int .i64 t.vol, .int .i64 t.mode, .int .i64 t.worth, w, .list 1 Q none]) ∧ σ'.next = j + N + 2 ∧ XOpd.eval tm' (.t 3) = .list 1 (V ++ [.int .i64 x1]) (some j) ∧ σ'.get j = some (.tok 3 1 (i + 2)) := by
    simp [xf81l0, hl, h1, h12, h13, h14, g0, j3, j4, hN, hi', i1, i2, lP, lV, gp, gV, u, f1, f2, hiw, z1, z2, z3, z4, b1, b2, xappend, ones, xload, AVal.cells, AVal.one, put_next, new_next, Store.get_new, Store.get_put, put_get, setR, only_get, merge_get', only_next, merge_next, upTo_self, upTo_one, merge_only, touch, wrote, isIn, okRec, hits, capsOf, xcaps, stripL, AVal.strip, freeL, AVal.free, fillR, chunks, mkV]
  obtain ⟨o1, p1, p2, p3, p4, p5, p6, p7, p8, p9⟩ := out_of e
  refine ⟨_, _, o1, p1, p2, p3, p4, p5, p6, by omega, .inr ⟨j, j1, by omega, p8, ?_, by simp⟩⟩
  rw [p9, List.length_append, lV]; rfl
theorem w81 {lo hi : Int} {R : List Md} {v : AVal} (hv : LV 4 Md.enc R v) {t : Tk} {H : List Hour} {w : AVal} (hw : LV 3 Hour.enc H w) {P : List Int} {p : AVal} (hp : IntV P p) (ht : TIn lo hi R t H) (hP : PIn R H P) : ∃ q, IntV (vL R t H P P.length) q ∧ ∀ σ, Run X (.call 81) [plnV lo hi v t w p] σ = some (.ret, [q], σ) := by
  have f1 := hv.free Md.fr
  have f2 := hw.free Hour.fr
  have f3 := plnV_fr (lo := lo) (hi := hi) (t := t) f1 f2 hp.free
  refine call1E (X := X) (a := plnV lo hi v t w p) (Φ := fun q => IntV (vL R t H P P.length) q) hX.h81 (by rw [f3.2]; exact f3.1) (by decide) (fun tm hl h0 => ?_)
  rw [f3.2] at h0
  unfold plnV at h0
  replace hl : tm.length = 33 := hl
  obtain ⟨k1, k2⟩ := hp.len
  have eP : Ends (Run X (.code (XCode.cutP 2 xf81.body)) tm Store.empty) .normal (I81 lo hi v R t H w P p 0) := by
    unfold I81 plCells
    simp [xf81, XCode.cutP, hl, h0, k1, k2, xload, AVal.cells, AVal.one, Store.empty, Store.new, Store.put, Store.get, look, putL, setR, Store.only, Store.merge, touch, wrote, upTo, isIn, okRec, hits, capsOf, xcaps, stripL, AVal.strip, freeL, AVal.free, fillR, chunks, mkV, List.filter]
    exact .inr ⟨1, by omega, Nat.lt_succ_self 1, rfl, rfl, by simp [vL, ints]⟩
  obtain ⟨o1, o2⟩ := out_of eP
  have lp : Ends (Run X (.code (.loop xf81l0)) (outT X (XCode.cutP 2 xf81.body) tm Store.empty) (outS X (XCode.cutP 2 xf81.body) tm Store.empty)) (.exit 0) (I81 lo hi v R t H w P p P.length) := by
    refine loop_all P.length (I81 lo hi v R t H w P p) (by simp) (fun i tm σ hi' h' => round81 hX hv hw hp ht hP i hi' tm σ h') (fun tm σ h' => ?_) _ _ o2
    obtain ⟨hl, h1, h12, h13, h14, hs⟩ := h'
    unfold I81
    simp [xf81l0, hl, h1, h12, h13, h14]
    exact hs
  obtain ⟨q1, q2, q3, q4, q5, q6, q7, q8, q9⟩ := out_of lp
  unfold GivesE
  rw [Run_cut 2, o1, thenC_normal, show XCode.cutB 2 xf81.body = .block 0 (.loop xf81l0) from rfl, Run_block, q1, blockC_exit]
  generalize outT X (.loop xf81l0) _ _ = tm3 at *
  generalize outS X (.loop xf81l0) _ _ = σ3 at *
  obtain ⟨k1, k2⟩ := q9.ints
  generalize hw9 : XOpd.eval tm3 (.t 3) = w9 at k1 k2
  simp [xf81, XCode.cutR, q2, hw9, xresult, xrets, xret_t]
  exact ⟨k2, k1⟩
/-! The reference's. -/
omit hX in
def I27 (lo hi : Int) (v : AVal) (R : List Md) (t : Tk) (H : List Hour) (w : AVal) (P : List Int) (p : AVal) (i : Nat) (tm : List AVal) (σ : Store) : Prop :=
  tm.length = 43 ∧ XOpd.eval tm (.t 2) = p ∧ XOpd.eval tm (.t 3) = .ptr 0 0 ∧ XOpd.eval tm (.t 4) = .ptr 1 0 ∧ XOpd.eval tm (.t 8) = .int .i64 i ∧ σ.get 0 = some (.cells [.int .i64 lo, .int .i64 hi, v]) ∧ σ.get 1 = some (.cells [.int .i64 t.vol, .int .i64 t.mode, .int .i64 t.worth, w]) ∧ 2 ≤ σ.next ∧ OutG 3 1 σ 2 (ints (vL R t H P i)) (XOpd.eval tm (.t 7))
omit hX in
set_option maxHeartbeats 8000000 in
theorem round27 {lo hi : Int} {R : List Md} {v : AVal} (hv : LV 4 Md.enc R v) {t : Tk} {H : List Hour} {w : AVal} (hw : LV 3 Hour.enc H w) {P : List Int} {p : AVal} (hp : IntV P p) (ht : TIn lo hi R t H) (hP : PIn R H P) (i : Nat) (hi' : i < P.length) (tm : List AVal) (σ : Store) (hI : I27 lo hi v R t H w P p i tm σ) : Ends (Run X (.code xf27l0) tm σ) .normal (I27 lo hi v R t H w P p (i + 1)) := by
  obtain ⟨hl, h2, h3, h4, h8, g0, g1, nx, ho⟩ := hI
  have hiw : IntKind.i64.wrap ((i : Int) + 1) = ((i + 1 : Nat) : Int) := by have := hP.n; have := ht.hn; rw [wrap_i64] <;> omega
  obtain ⟨k, pk, kR, pt, pg⟩ := p_nat hP hi'
  have hpp : p = .list 1 (ints P) none := hp.ne (by intro e; simp [e] at hi')
  have hiH : i < H.length := by have := hP.n; omega
  have hvv := hv.ne (show R ≠ [] by intro e; simp [e] at kR)
  have hww := hw.ne (show H ≠ [] by intro e; simp [e] at hiH)
  have b := vS_in ht P i
  have bm := ht.md k
  have bh := ht.hr i
  have hnn := ht.hn
  have hPn := hP.n
  have eS : vS R t H P (i + 1) = vS R t H P i + (H.getD i hr0).inf + (R.getD k md0).ch := by show vS R t H P i + (H.getD i hr0).inf + (R.getD (P.getD i 0).toNat md0).ch = _; rw [pt]
  have eF : ints (vL R t H P (i + 1)) = ints (vL R t H P i) ++ [.int .i64 (vS R t H P (i + 1))] := by rw [vL_succ, ints_app]
  obtain ⟨d, hd⟩ : ∃ d, R.getD k md0 = d := ⟨_, rfl⟩
  obtain ⟨e, he⟩ : ∃ e, H.getD i hr0 = e := ⟨_, rfl⟩
  have c1 := md_get kR hd
  have c2 := hr_get hiH he
  have w1 : IntKind.i64.wrap (vS R t H P i + e.inf) = vS R t H P i + e.inf := by rw [← he]; exact wrp (by omega) (by omega)
  have w2 : IntKind.i64.wrap (vS R t H P i + e.inf + d.ch) = vS R t H P (i + 1) := by rw [eS, he, hd, ← he, ← hd]; exact wrp (by omega) (by omega)
  have gp : ∀ h, (ints P)[i]'h = .int .i64 (k : Int) := fun h => by simp [ints, pk]
  have gV : ∀ h, (ints (vL R t H P i))[i]'h = .int .i64 (vS R t H P i) := fun h => by
    have e := vL_get R t H P (n := i) (i := i) (by omega)
    have hk3 : i < (vL R t H P i).length := by rw [vL_len]; omega
    have e' : (vL R t H P i)[i] = vS R t H P i := by simpa [hk3] using e
    simp [ints, e']
  have lP := ints_len P
  have lV := ints_len (vL R t H P i)
  rw [vL_len] at lV
  have hne : ints (vL R t H P i) ≠ [] := by intro e; rw [e] at lV; simp at lV
  obtain ⟨j, j1, j2, j3, j4⟩ := outG_list ho hne
  have lA : (R.map Md.enc).length = R.length := by simp
  have lB : (H.map Hour.enc).length = H.length := by simp
  unfold I27
  rw [eF]
  rw [hpp] at h2 ⊢
  rw [hvv] at g0 ⊢
  rw [hww] at g1 ⊢
  clear eS eF b bm bh
  generalize vS R t H P (i + 1) = x1 at *
  generalize vS R t H P i = x0 at *
  generalize ints (vL R t H P i) = V at *
  generalize ints P = Q at *
  generalize R.map Md.enc = A at *
  generalize H.map Hour.enc = B at *
  obtain ⟨N, hN⟩ : ∃ N, σ.next = j + N + 1 := ⟨σ.next - j - 1, by omega⟩
  have z1 : ¬ j = 0 := by omega
  have z2 : ¬ 0 = j := by omega
  have z3 : ¬ j = j + N + 1 := by omega
  have z4 : ¬ j + N + 1 = j := by omega
  have z5 : ¬ j = 1 := by omega
  have z6 : ¬ 1 = j := by omega
  have z7 : ¬ j + N = 0 := by omega
  have z8 : ¬ 0 = j + N := by omega
  have i1 : i < Q.length := by omega
  have i2 : i < V.length := by omega
  have i3 : k < A.length := by omega
  have i4 : i < B.length := by omega
  have b1 : (i + 1 + 1) * 8 ≤ 1000000000000 := by omega
  have b2 : i + 1 + 1 ≤ 1000000000000 := by omega
  have ii : (i : Int) < P.length := by omega
  have e : Ends (Run X (.code xf27l0) tm σ) .normal fun tm' σ' => tm'.length = 43 ∧ XOpd.eval tm' (.t 2) = .list 1 Q none ∧ XOpd.eval tm' (.t 3) = .ptr 0 0 ∧ XOpd.eval tm' (.t 4) = .ptr 1 0 ∧ XOpd.eval tm' (.t 8) = .int .i64 ((i + 1 : Nat) : Int) ∧ σ'.get 0 = some (.cells [.int .i64 lo, .int .i64 hi, .list 4 A none]) ∧ σ'.get 1 = some (.cells [.int .i64 t.vol, .int .i64 t.mode, .int .i64 t.worth, .list 3 B none]) ∧ σ'.next = j + N + 2 ∧ XOpd.eval tm' (.t 7) = .list 1 (V ++ [.int .i64 x1]) (some j) ∧ σ'.get j = some (.tok 3 1 (i + 2)) := by
    simp [xf27l0, hl, h2, h3, h4, h8, g0, g1, j3, j4, hN, hi', hiH, kR, ii, i1, i2, i3, i4, lP, lV, lA, lB, gp, gV, c1, c2, w1, w2, hiw, z1, z2, z3, z4, z5, z6, z7, z8, b1, b2, xappend, ones, xload, xlen, AVal.cells, AVal.one, put_next, new_next, Store.get_new, Store.get_put, put_get, setR, only_get, merge_get', only_next, merge_next, upTo_self, upTo_one, merge_only, touch, wrote, isIn, okRec, hits, capsOf, xcaps, stripL, AVal.strip, freeL, AVal.free, fillR, chunks, mkV]
  obtain ⟨o1, p1, p2, p3, p4, p5, p6, p7, p8, p9, p10⟩ := out_of e
  refine ⟨_, _, o1, p1, p2, p3, p4, p5, p6, p7, by omega, .inr ⟨j, j1, by omega, p9, ?_, by simp⟩⟩
  rw [p10, List.length_append, lV]; rfl
theorem w27 {lo hi : Int} {R : List Md} {v : AVal} (hv : LV 4 Md.enc R v) {t : Tk} {H : List Hour} {w : AVal} (hw : LV 3 Hour.enc H w) {P : List Int} {p : AVal} (hp : IntV P p) (ht : TIn lo hi R t H) (hP : PIn R H P) : ∃ q, IntV (vL R t H P P.length) q ∧ ∀ σ, Run X (.call 27) [plV lo hi v, tkV t w, p] σ = some (.ret, [q], σ) := by
  have f1 := hv.free Md.fr
  have f2 := hw.free Hour.fr
  have f3 := plV_fr (lo := lo) (hi := hi) f1
  have f4 := tkV_fr (t := t) f2
  refine call3E (X := X) (a := plV lo hi v) (b := tkV t w) (c := p) (Φ := fun q => IntV (vL R t H P P.length) q) hX.h27 (by rw [f3.2]; exact f3.1) (by rw [f4.2]; exact f4.1) (by rw [hp.free.2]; exact hp.free.1) (by decide) (fun tm hl h0 h1 h2 => ?_)
  rw [f3.2] at h0
  rw [f4.2] at h1
  rw [hp.free.2] at h2
  unfold plV at h0
  unfold tkV at h1
  replace hl : tm.length = 43 := hl
  obtain ⟨k1, k2⟩ := hp.len
  have eP : Ends (Run X (.code (XCode.cutP 2 xf27.body)) tm Store.empty) .normal (I27 lo hi v R t H w P p 0) := by
    unfold I27
    simp [xf27, XCode.cutP, hl, h0, h1, h2, k1, k2, xload, AVal.cells, AVal.one, Store.empty, Store.new, Store.put, Store.get, look, putL, setR, Store.only, Store.merge, touch, wrote, upTo, isIn, okRec, hits, capsOf, xcaps, stripL, AVal.strip, freeL, AVal.free, fillR, chunks, mkV, List.filter]
    exact .inr ⟨2, by omega, Nat.lt_succ_self 2, rfl, rfl, by simp [vL, ints]⟩
  obtain ⟨o1, o2⟩ := out_of eP
  have lp : Ends (Run X (.code (.loop xf27l0)) (outT X (XCode.cutP 2 xf27.body) tm Store.empty) (outS X (XCode.cutP 2 xf27.body) tm Store.empty)) (.exit 0) (I27 lo hi v R t H w P p P.length) := by
    refine loop_all P.length (I27 lo hi v R t H w P p) (by simp) (fun i tm σ hi' h' => round27 hv hw hp ht hP i hi' tm σ h') (fun tm σ h' => ?_) _ _ o2
    obtain ⟨hl, h2, h3, h4, h8, hs⟩ := h'
    unfold I27
    simp [xf27l0, hl, h2, h3, h4, h8, k1, k2]
    exact hs
  obtain ⟨q1, q2, q3, q4, q5, q6, q7, q8, q9, q10⟩ := out_of lp
  unfold GivesE
  rw [Run_cut 2, o1, thenC_normal, show XCode.cutB 2 xf27.body = .block 0 (.loop xf27l0) from rfl, Run_block, q1, blockC_exit]
  generalize outT X (.loop xf27l0) _ _ = tm3 at *
  generalize outS X (.loop xf27l0) _ _ = σ3 at *
  obtain ⟨k1, k2⟩ := q10.ints
  generalize hw9 : XOpd.eval tm3 (.t 7) = w9 at k1 k2
  simp [xf27, XCode.cutR, q2, hw9, xresult, xrets, xret_t]
  exact ⟨k2, k1⟩
end
end Go.Proofs.Ytgijgcmcpgepaaa.Eng

/-
  DISPATCH: values of plans, starts.
-/
namespace Go.Proofs.Ytgijgcmcpgepaaa.Eng
set_option linter.unusedSimpArgs false
set_option linter.unusedVariables false
theorem bf_succ (t : Tk) (P : List Int) (i : Nat) : bfS t P (i + 1) = P.getD i 0 := rfl
section
variable {X : FuncId → Option XFunc} (hX : DxCCode X)
include hX
/-! Starts. -/
omit hX in
def I83 (lo hi : Int) (v : AVal) (t : Tk) (w : AVal) (P : List Int) (p : AVal) (i : Nat) (tm : List AVal) (σ : Store) : Prop :=
  tm.length = 26 ∧ XOpd.eval tm (.t 3) = .int .i64 (sS t P i) ∧ XOpd.eval tm (.t 4) = .int .i64 (bfS t P i) ∧ XOpd.eval tm (.t 12) = p ∧ XOpd.eval tm (.t 13) = .int .i64 P.length ∧ XOpd.eval tm (.t 14) = .int .i64 i
omit hX in
theorem round83 {lo hi : Int} {v : AVal} {t : Tk} {w : AVal} {P : List Int} {p : AVal} (hp : IntV P p) (hn : P.length ≤ 1000) (i : Nat) (hi' : i < P.length) (tm : List AVal) (σ : Store) (hI : I83 lo hi v t w P p i tm σ) : Ends (Run X (.code xf83l0) tm σ) .normal (I83 lo hi v t w P p (i + 1)) := by
  obtain ⟨hl, h3, h4, h12, h13, h14⟩ := hI
  have hiw : IntKind.i64.wrap ((i : Int) + 1) = ((i + 1 : Nat) : Int) := by rw [wrap_i64] <;> omega
  have hpp : p = .list 1 (ints P) none := hp.ne (by intro e; simp [e] at hi')
  have pg : P.getD i 0 = P[i] := by simp [hi']
  have gp : ∀ h, (ints P)[i]'h = .int .i64 P[i] := fun h => by simp [ints]
  have lP := ints_len P
  have b := sS_in t P i
  have eS : sS t P (i + 1) = sS t P i + (if P[i] = bfS t P i then 0 else 1) := by show sS t P i + (if P.getD i 0 = bfS t P i then 0 else 1) = _; rw [pg]
  have w1 : IntKind.i64.wrap (sS t P i + 1) = sS t P i + 1 := wrp (by omega) (by omega)
  unfold I83
  rw [eS, bf_succ, pg]
  subst hpp
  generalize bfS t P i = bb at *
  generalize sS t P i = ss at *
  generalize P[i] = x at *
  generalize ints P = Q at *
  have i1 : i < Q.length := by omega
  by_cases c : x = bb <;> simp [xf83l0, hl, h3, h4, h12, h13, h14, hi', i1, lP, gp, hiw, w1, c, xload, AVal.cells, AVal.one, put_next, new_next, Store.get_new, Store.get_put, put_get, setR, only_get, merge_get', only_next, merge_next, upTo_self, upTo_one, merge_only, touch, wrote, isIn, okRec, hits, capsOf, xcaps, stripL, AVal.strip, freeL, AVal.free, fillR, chunks, mkV]
theorem w83 {lo hi : Int} {v : AVal} (f1 : v.free = true ∧ v.strip = v) {t : Tk} {w : AVal} (f2 : w.free = true ∧ w.strip = w) {P : List Int} {p : AVal} (hp : IntV P p) (hn : P.length ≤ 1000) (σ : Store) : Run X (.call 83) [plnV lo hi v t w p] σ = some (.ret, [.int .i64 (sS t P P.length)], σ) := by
  have f3 := plnV_fr (lo := lo) (hi := hi) (t := t) f1 f2 hp.free
  refine call1 (a := plnV lo hi v t w p) (v := .int .i64 (sS t P P.length)) hX.h83 (by rw [f3.2]; exact f3.1) (by decide) (fun tm hl h0 => ?_) rfl σ
  rw [f3.2] at h0
  unfold plnV at h0
  replace hl : tm.length = 26 := hl
  obtain ⟨k1, k2⟩ := hp.len
  have eP : Ends (Run X (.code (XCode.cutP 2 xf83.body)) tm Store.empty) .normal (I83 lo hi v t w P p 0) := by
    unfold I83
    simp [xf83, XCode.cutP, hl, h0, k1, k2, sS, bfS, xload, AVal.cells, AVal.one, Store.empty, Store.new, Store.put, Store.get, look, putL, setR, Store.only, Store.merge, touch, wrote, upTo, isIn, okRec, hits, capsOf, xcaps, stripL, AVal.strip, freeL, AVal.free, fillR, chunks, mkV, List.filter]
  obtain ⟨o1, o2⟩ := out_of eP
  have lp : Ends (Run X (.code (.loop xf83l0)) (outT X (XCode.cutP 2 xf83.body) tm Store.empty) (outS X (XCode.cutP 2 xf83.body) tm Store.empty)) (.exit 0) (I83 lo hi v t w P p P.length) := by
    refine loop_all P.length (I83 lo hi v t w P p) (by simp) (fun i tm σ hi' h' => round83 hp hn i hi' tm σ h') (fun tm σ h' => ?_) _ _ o2
    obtain ⟨hl, h3, h4, h12, h13, h14⟩ := h'
    unfold I83
    simp [xf83l0, hl, h3, h4, h12, h13, h14]
  obtain ⟨q1, q2, q3, q4, q5, q6, q7⟩ := out_of lp
  unfold Gives
  rw [Run_cut 2, o1, thenC_normal, show XCode.cutB 2 xf83.body = .block 0 (.loop xf83l0) from rfl, Run_block, q1, blockC_exit]
  generalize outT X (.loop xf83l0) _ _ = tm3 at *
  generalize outS X (.loop xf83l0) _ _ = σ3 at *
  simp [xf83, XCode.cutR, q2, q3]
omit hX in
def I29 (t : Tk) (P : List Int) (p : AVal) (i : Nat) (tm : List AVal) (σ : Store) : Prop :=
  tm.length = 29 ∧ XOpd.eval tm (.t 5) = .int .i64 (sS t P i) ∧ XOpd.eval tm (.t 6) = .int .i64 (bfS t P i) ∧ XOpd.eval tm (.t 1) = p ∧ XOpd.eval tm (.t 7) = .int .i64 i
omit hX in
theorem round29 {t : Tk} {P : List Int} {p : AVal} (hp : IntV P p) (hn : P.length ≤ 1000) (i : Nat) (hi' : i < P.length) (tm : List AVal) (σ : Store) (hI : I29 t P p i tm σ) : Ends (Run X (.code xf29l0) tm σ) .normal (I29 t P p (i + 1)) := by
  obtain ⟨hl, h5, h6, h1, h7⟩ := hI
  have hiw : IntKind.i64.wrap ((i : Int) + 1) = ((i + 1 : Nat) : Int) := by rw [wrap_i64] <;> omega
  have hpp : p = .list 1 (ints P) none := hp.ne (by intro e; simp [e] at hi')
  have pg : P.getD i 0 = P[i] := by simp [hi']
  have gp : ∀ h, (ints P)[i]'h = .int .i64 P[i] := fun h => by simp [ints]
  have lP := ints_len P
  have b := sS_in t P i
  have eS : sS t P (i + 1) = sS t P i + (if P[i] = bfS t P i then 0 else 1) := by show sS t P i + (if P.getD i 0 = bfS t P i then 0 else 1) = _; rw [pg]
  have w1 : IntKind.i64.wrap (sS t P i + 1) = sS t P i + 1 := wrp (by omega) (by omega)
  unfold I29
  rw [eS, bf_succ, pg]
  subst hpp
  generalize bfS t P i = bb at *
  generalize sS t P i = ss at *
  generalize P[i] = x at *
  generalize ints P = Q at *
  have i1 : i < Q.length := by omega
  have ii : (i : Int) < P.length := by omega
  by_cases c : x = bb <;> simp [xf29l0, hl, h5, h6, h1, h7, hi', i1, ii, lP, gp, hiw, w1, c, xload, xlen, AVal.cells, AVal.one, put_next, new_next, Store.get_new, Store.get_put, put_get, setR, only_get, merge_get', only_next, merge_next, upTo_self, upTo_one, merge_only, touch, wrote, isIn, okRec, hits, capsOf, xcaps, stripL, AVal.strip, freeL, AVal.free, fillR, chunks, mkV]
theorem w29 {t : Tk} {w : AVal} (f2 : w.free = true ∧ w.strip = w) {P : List Int} {p : AVal} (hp : IntV P p) (hn : P.length ≤ 1000) (σ : Store) : Run X (.call 29) [tkV t w, p] σ = some (.ret, [.int .i64 (sS t P P.length)], σ) := by
  have f4 := tkV_fr (t := t) f2
  refine call2 (a := tkV t w) (b := p) (v := .int .i64 (sS t P P.length)) hX.h29 (by rw [f4.2]; exact f4.1) (by rw [hp.free.2]; exact hp.free.1) (by decide) (fun tm hl h0 h1 => ?_) rfl σ
  rw [f4.2] at h0
  rw [hp.free.2] at h1
  unfold tkV at h0
  replace hl : tm.length = 29 := hl
  obtain ⟨k1, k2⟩ := hp.len
  have eP : Ends (Run X (.code (XCode.cutP 2 xf29.body)) tm Store.empty) .normal (I29 t P p 0) := by
    unfold I29
    simp [xf29, XCode.cutP, hl, h0, h1, k1, k2, sS, bfS, xload, AVal.cells, AVal.one, Store.empty, Store.new, Store.put, Store.get, look, putL, setR, Store.only, Store.merge, touch, wrote, upTo, isIn, okRec, hits, capsOf, xcaps, stripL, AVal.strip, freeL, AVal.free, fillR, chunks, mkV, List.filter]
  obtain ⟨o1, o2⟩ := out_of eP
  have lp : Ends (Run X (.code (.loop xf29l0)) (outT X (XCode.cutP 2 xf29.body) tm Store.empty) (outS X (XCode.cutP 2 xf29.body) tm Store.empty)) (.exit 0) (I29 t P p P.length) := by
    refine loop_all P.length (I29 t P p) (by simp) (fun i tm σ hi' h' => round29 hp hn i hi' tm σ h') (fun tm σ h' => ?_) _ _ o2
    obtain ⟨hl, h5, h6, h1, h7⟩ := h'
    unfold I29
    simp [xf29l0, hl, h5, h6, h1, h7, k1, k2]
  obtain ⟨q1, q2, q3, q4, q5, q6⟩ := out_of lp
  unfold Gives
  rw [Run_cut 2, o1, thenC_normal, show XCode.cutB 2 xf29.body = .block 0 (.loop xf29l0) from rfl, Run_block, q1, blockC_exit]
  generalize outT X (.loop xf29l0) _ _ = tm3 at *
  generalize outS X (.loop xf29l0) _ _ = σ3 at *
  simp [xf29, XCode.cutR, q2, q3]
/-! Values. -/
omit hX in
def valS (R : List Md) (t : Tk) (H : List Hour) (P : List Int) : Int := rS R t H P P.length + t.worth * vS R t H P P.length
omit hX in
def I82 (lo hi : Int) (v : AVal) (R : List Md) (t : Tk) (H : List Hour) (w : AVal) (P : List Int) (p : AVal) (i : Nat) (tm : List AVal) (σ : Store) : Prop :=
  tm.length = 43 ∧ XOpd.eval tm (.t 1) = .ptr 0 0 ∧ XOpd.eval tm (.t 3) = .int .i64 (rS R t H P i) ∧ XOpd.eval tm (.t 4) = .int .i64 (bfS t P i) ∧ XOpd.eval tm (.t 12) = p ∧ XOpd.eval tm (.t 13) = .int .i64 P.length ∧ XOpd.eval tm (.t 14) = .int .i64 i ∧ σ.get 0 = some (.cells (plCells lo hi v t w p))
set_option maxHeartbeats 8000000 in
theorem round82 {lo hi : Int} {R : List Md} {v : AVal} (hv : LV 4 Md.enc R v) {t : Tk} {H : List Hour} {w : AVal} (hw : LV 3 Hour.enc H w) {P : List Int} {p : AVal} (hp : IntV P p) (ht : TIn lo hi R t H) (hP : PIn R H P) (i : Nat) (hi' : i < P.length) (tm : List AVal) (σ : Store) (hI : I82 lo hi v R t H w P p i tm σ) : Ends (Run X (.code xf82l0) tm σ) .normal (I82 lo hi v R t H w P p (i + 1)) := by
  obtain ⟨hl, h1, h3, h4, h12, h13, h14, g0⟩ := hI
  have hiw : IntKind.i64.wrap ((i : Int) + 1) = ((i + 1 : Nat) : Int) := by have := hP.n; have := ht.hn; rw [wrap_i64] <;> omega
  obtain ⟨k, pk, kR, pt, pg⟩ := p_nat hP hi'
  have hpp : p = .list 1 (ints P) none := hp.ne (by intro e; simp [e] at hi')
  have hiH : i < H.length := by have := hP.n; omega
  have b := rS_in ht P i
  have r := rev_in ht k i k (bfS t P i)
  have hnn := ht.hn
  have hPn := hP.n
  have u := w123 hX hv hw (lo := lo) (hi := hi) (t := t) hiH kR (bfS t P i) (rv_ok ht k i)
  have eS : rS R t H P (i + 1) = rS R t H P i + rev (R.getD k md0) (H.getD i hr0) k (bfS t P i) := by show rS R t H P i + rev (R.getD (P.getD i 0).toNat md0) (H.getD i hr0) (P.getD i 0) (bfS t P i) = _; rw [pt, pg]
  have w1 : IntKind.i64.wrap (rS R t H P i + rev (R.getD k md0) (H.getD i hr0) k (bfS t P i)) = rS R t H P i + rev (R.getD k md0) (H.getD i hr0) k (bfS t P i) := wrp (by omega) (by omega)
  have gp : ∀ h, (ints P)[i]'h = .int .i64 (k : Int) := fun h => by simp [ints, pk]
  have lP := ints_len P
  have f1 := hv.free Md.fr
  have f2 := hw.free Hour.fr
  unfold ptV at u
  unfold I82
  rw [eS, bf_succ, pg]
  rw [hpp] at h12 g0 ⊢
  unfold plCells at *
  generalize rev (R.getD k md0) (H.getD i hr0) k (bfS t P i) = rr at *
  generalize rS R t H P i = x0 at *
  generalize bfS t P i = bb at *
  generalize ints P = Q at *
  have i1 : i < Q.length := by omega
  simp [xf82l0, hl, h1, h3, h4, h12, h13, h14, g0, hi', i1, lP, gp, u, f1, f2, hiw, w1, xload, AVal.cells, AVal.one, put_next, new_next, Store.get_new, Store.get_put, put_get, setR, only_get, merge_get', only_next, merge_next, upTo_self, upTo_one, merge_only, touch, wrote, isIn, okRec, hits, capsOf, xcaps, stripL, AVal.strip, freeL, AVal.free, fillR, chunks, mkV]
end
end Go.Proofs.Ytgijgcmcpgepaaa.Eng

/-
  DISPATCH: values of plans, whole.
-/
namespace Go.Proofs.Ytgijgcmcpgepaaa.Eng
set_option linter.unusedSimpArgs false
set_option linter.unusedVariables false
theorem mul_in2 {a b : Int} (ha : -10000 ≤ a ∧ a ≤ 10000) (hb : -2000000 ≤ b ∧ b ≤ 2000000) : -20000000000 ≤ a * b ∧ a * b ≤ 20000000000 := by
  have key : ∀ a b : Int, 0 ≤ a → a ≤ 10000 → 0 ≤ b → b ≤ 2000000 → 0 ≤ a * b ∧ a * b ≤ 20000000000 := fun a b a0 a1 b0 b1 => by
    have h1 := Int.mul_nonneg a0 b0
    have h2 : a * b ≤ 10000 * b := Int.mul_le_mul_of_nonneg_right a1 b0
    omega
  rcases Int.le_total 0 a with c | c <;> rcases Int.le_total 0 b with d | d
  · have := key a b c ha.2 d hb.2; omega
  · have := key a (-b) c ha.2 (by omega) (by omega); rw [Int.mul_neg] at this; omega
  · have := key (-a) b (by omega) (by omega) d hb.2; rw [Int.neg_mul] at this; omega
  · have := key (-a) (-b) (by omega) (by omega) (by omega) (by omega); rw [Int.neg_mul, Int.mul_neg, Int.neg_neg] at this; omega
section
variable {X : FuncId → Option XFunc} (hX : DxCCode X)
include hX
set_option maxHeartbeats 8000000 in
theorem w82 {lo hi : Int} {R : List Md} {v : AVal} (hv : LV 4 Md.enc R v) {t : Tk} {H : List Hour} {w : AVal} (hw : LV 3 Hour.enc H w) {P : List Int} {p : AVal} (hp : IntV P p) (ht : TIn lo hi R t H) (hP : PIn R H P) (σ : Store) : Run X (.call 82) [plnV lo hi v t w p] σ = some (.ret, [.int .i64 (valS R t H P)], σ) := by
  have f1 := hv.free Md.fr
  have f2 := hw.free Hour.fr
  have f6 := hp.free
  have f3 := plnV_fr (lo := lo) (hi := hi) (t := t) f1 f2 hp.free
  refine call1 (a := plnV lo hi v t w p) (v := .int .i64 (valS R t H P)) hX.h82 (by rw [f3.2]; exact f3.1) (by decide) (fun tm hl h0 => ?_) rfl σ
  rw [f3.2] at h0
  unfold plnV at h0
  replace hl : tm.length = 43 := hl
  obtain ⟨k1, k2⟩ := hp.len
  have eP : Ends (Run X (.code (XCode.cutP 2 xf82.body)) tm Store.empty) .normal (I82 lo hi v R t H w P p 0) := by
    unfold I82 plCells
    simp [xf82, XCode.cutP, hl, h0, k1, k2, rS, bfS, xload, AVal.cells, AVal.one, Store.empty, Store.new, Store.put, Store.get, look, putL, setR, Store.only, Store.merge, touch, wrote, upTo, isIn, okRec, hits, capsOf, xcaps, stripL, AVal.strip, freeL, AVal.free, fillR, chunks, mkV, List.filter]
  obtain ⟨o1, o2⟩ := out_of eP
  have lp : Ends (Run X (.code (.loop xf82l0)) (outT X (XCode.cutP 2 xf82.body) tm Store.empty) (outS X (XCode.cutP 2 xf82.body) tm Store.empty)) (.exit 0) (I82 lo hi v R t H w P p P.length) := by
    refine loop_all P.length (I82 lo hi v R t H w P p) (by simp) (fun i tm σ hi' h' => round82 hX hv hw hp ht hP i hi' tm σ h') (fun tm σ h' => ?_) _ _ o2
    obtain ⟨hl, h1, h3, h4, h12, h13, h14, hs⟩ := h'
    unfold I82
    simp [xf82l0, hl, h1, h3, h4, h12, h13, h14]
    exact hs
  obtain ⟨q1, q2, q3, q4, q5, q6, q7, q8, q9⟩ := out_of lp
  obtain ⟨q, hq, u⟩ := w81 hX hv hw hp ht hP
  have hqq := hq.ne (show vL R t H P P.length ≠ [] by intro e; have := vL_len R t H P P.length; rw [e] at this; simp at this)
  subst hqq
  have gV : ∀ h, (ints (vL R t H P P.length))[P.length]'h = .int .i64 (vS R t H P P.length) := fun h => by
    have e := vL_get R t H P (n := P.length) (i := P.length) (by omega)
    have hk3 : P.length < (vL R t H P P.length).length := by rw [vL_len]; omega
    have e' : (vL R t H P P.length)[P.length] = vS R t H P P.length := by simpa [hk3] using e
    simp [ints, e']
  have lV := ints_len (vL R t H P P.length)
  rw [vL_len] at lV
  have b1 := rS_in ht P P.length
  have b2 := vS_in ht P P.length
  have hnn := ht.hn
  have hPn := hP.n
  have m1 := mul_in2 (a := t.worth) (b := vS R t H P P.length) ⟨ht.w0, ht.w1⟩ (by omega)
  have w1 : IntKind.i64.wrap (t.worth * vS R t H P P.length) = t.worth * vS R t H P P.length := wrp (by omega) (by omega)
  have w2 : IntKind.i64.wrap (rS R t H P P.length + t.worth * vS R t H P P.length) = rS R t H P P.length + t.worth * vS R t H P P.length := wrp (by omega) (by omega)
  unfold Gives valS
  rw [Run_cut 2, o1, thenC_normal, show XCode.cutB 2 xf82.body = .block 0 (.loop xf82l0) from rfl, Run_block, q1, blockC_exit]
  generalize outT X (.loop xf82l0) _ _ = tm3 at *
  generalize outS X (.loop xf82l0) _ _ = σ3 at *
  unfold plnV at u
  unfold plCells at q9
  generalize vS R t H P P.length = vv at *
  generalize rS R t H P P.length = rr at *
  generalize ints (vL R t H P P.length) = V at *
  have i1 : P.length < V.length := by omega
  simp [xf82, XCode.cutR, q2, q3, q4, q9, u, f1, f2, f6, k1, k2, i1, lV, gV, w1, w2, xload, AVal.cells, AVal.one, put_next, new_next, Store.get_new, Store.get_put, put_get, setR, only_get, merge_get', only_next, merge_next, upTo_self, upTo_one, merge_only, touch, wrote, isIn, okRec, hits, capsOf, xcaps, stripL, AVal.strip, freeL, AVal.free, fillR, chunks, mkV]
/-! The reference's. -/
omit hX in
def I28 (lo hi : Int) (v : AVal) (R : List Md) (t : Tk) (H : List Hour) (w : AVal) (P : List Int) (p : AVal) (i : Nat) (tm : List AVal) (σ : Store) : Prop :=
  tm.length = 52 ∧ XOpd.eval tm (.t 2) = p ∧ XOpd.eval tm (.t 3) = .ptr 0 0 ∧ XOpd.eval tm (.t 4) = .ptr 1 0 ∧ XOpd.eval tm (.t 7) = .int .i64 (rS R t H P i) ∧ XOpd.eval tm (.t 8) = .int .i64 (bfS t P i) ∧ XOpd.eval tm (.t 9) = .int .i64 i ∧ σ.get 0 = some (.cells [.int .i64 lo, .int .i64 hi, v]) ∧ σ.get 1 = some (.cells [.int .i64 t.vol, .int .i64 t.mode, .int .i64 t.worth, w])
set_option maxHeartbeats 8000000 in
theorem round28 {lo hi : Int} {R : List Md} {v : AVal} (hv : LV 4 Md.enc R v) {t : Tk} {H : List Hour} {w : AVal} (hw : LV 3 Hour.enc H w) {P : List Int} {p : AVal} (hp : IntV P p) (ht : TIn lo hi R t H) (hP : PIn R H P) (i : Nat) (hi' : i < P.length) (tm : List AVal) (σ : Store) (hI : I28 lo hi v R t H w P p i tm σ) : Ends (Run X (.code xf28l0) tm σ) .normal (I28 lo hi v R t H w P p (i + 1)) := by
  obtain ⟨hl, h2, h3, h4, h7, h8, h9, g0, g1⟩ := hI
  have hiw : IntKind.i64.wrap ((i : Int) + 1) = ((i + 1 : Nat) : Int) := by have := hP.n; have := ht.hn; rw [wrap_i64] <;> omega
  obtain ⟨k, pk, kR, pt, pg⟩ := p_nat hP hi'
  have hpp : p = .list 1 (ints P) none := hp.ne (by intro e; simp [e] at hi')
  have hiH : i < H.length := by have := hP.n; omega
  have hww := hw.ne (show H ≠ [] by intro e; simp [e] at hiH)
  have b := rS_in ht P i
  have r := rev_in ht k i k (bfS t P i)
  have hnn := ht.hn
  have hPn := hP.n
  obtain ⟨e, he⟩ : ∃ e, H.getD i hr0 = e := ⟨_, rfl⟩
  have c2 := hr_get hiH he
  have ok := rv_ok ht k i
  rw [he] at ok
  have u := w88 hX hv (lo := lo) (hi := hi) e kR (bfS t P i) ok
  have eS : rS R t H P (i + 1) = rS R t H P i + rev (R.getD k md0) e k (bfS t P i) := by show rS R t H P i + rev (R.getD (P.getD i 0).toNat md0) (H.getD i hr0) (P.getD i 0) (bfS t P i) = _; rw [pt, pg, he]
  rw [he] at r
  have w1 : IntKind.i64.wrap (rS R t H P i + rev (R.getD k md0) e k (bfS t P i)) = rS R t H P i + rev (R.getD k md0) e k (bfS t P i) := wrp (by omega) (by omega)
  have gp : ∀ h, (ints P)[i]'h = .int .i64 (k : Int) := fun h => by simp [ints, pk]
  have lP := ints_len P
  have lB : (H.map Hour.enc).length = H.length := by simp
  have f1 := hv.free Md.fr
  unfold plV at u
  unfold I28
  rw [eS, bf_succ, pg]
  rw [hpp] at h2 ⊢
  rw [hww] at g1 ⊢
  generalize rev (R.getD k md0) e k (bfS t P i) = rr at *
  generalize rS R t H P i = x0 at *
  generalize bfS t P i = bb at *
  generalize ints P = Q at *
  generalize H.map Hour.enc = B at *
  have i1 : i < Q.length := by omega
  have i4 : i < B.length := by omega
  have ii : (i : Int) < P.length := by omega
  simp [xf28l0, hl, h2, h3, h4, h7, h8, h9, g0, g1, hi', hiH, i1, i4, ii, lP, lB, gp, c2, u, f1, hiw, w1, xload, xlen, AVal.cells, AVal.one, put_next, new_next, Store.get_new, Store.get_put, put_get, setR, only_get, merge_get', only_next, merge_next, upTo_self, upTo_one, merge_only, touch, wrote, isIn, okRec, hits, capsOf, xcaps, stripL, AVal.strip, freeL, AVal.free, fillR, chunks, mkV]
set_option maxHeartbeats 8000000 in
theorem w28 {lo hi : Int} {R : List Md} {v : AVal} (hv : LV 4 Md.enc R v) {t : Tk} {H : List Hour} {w : AVal} (hw : LV 3 Hour.enc H w) {P : List Int} {p : AVal} (hp : IntV P p) (ht : TIn lo hi R t H) (hP : PIn R H P) (σ : Store) : Run X (.call 28) [plV lo hi v, tkV t w, p] σ = some (.ret, [.int .i64 (valS R t H P)], σ) := by
  have f1 := hv.free Md.fr
  have f2 := hw.free Hour.fr
  have f6 := hp.free
  have f3 := plV_fr (lo := lo) (hi := hi) f1
  have f4 := tkV_fr (t := t) f2
  refine call3 (a := plV lo hi v) (b := tkV t w) (c := p) (v := .int .i64 (valS R t H P)) hX.h28 (by rw [f3.2]; exact f3.1) (by rw [f4.2]; exact f4.1) (by rw [f6.2]; exact f6.1) (by decide) (fun tm hl h0 h1 h2 => ?_) rfl σ
  rw [f3.2] at h0
  rw [f4.2] at h1
  rw [f6.2] at h2
  unfold plV at h0
  unfold tkV at h1
  replace hl : tm.length = 52 := hl
  obtain ⟨k1, k2⟩ := hp.len
  have eP : Ends (Run X (.code (XCode.cutP 2 xf28.body)) tm Store.empty) .normal (I28 lo hi v R t H w P p 0) := by
    unfold I28
    simp [xf28, XCode.cutP, hl, h0, h1, h2, rS, bfS, xload, AVal.cells, AVal.one, Store.empty, Store.new, Store.put, Store.get, look, putL, setR, Store.only, Store.merge, touch, wrote, upTo, isIn, okRec, hits, capsOf, xcaps, stripL, AVal.strip, freeL, AVal.free, fillR, chunks, mkV, List.filter]
  obtain ⟨o1, o2⟩ := out_of eP
  have lp : Ends (Run X (.code (.loop xf28l0)) (outT X (XCode.cutP 2 xf28.body) tm Store.empty) (outS X (XCode.cutP 2 xf28.body) tm Store.empty)) (.exit 0) (I28 lo hi v R t H w P p P.length) := by
    refine loop_all P.length (I28 lo hi v R t H w P p) (by simp) (fun i tm σ hi' h' => round28 hX hv hw hp ht hP i hi' tm σ h') (fun tm σ h' => ?_) _ _ o2
    obtain ⟨hl, h2, h3, h4, h7, h8, h9, hs⟩ := h'
    unfold I28
    simp [xf28l0, hl, h2, h3, h4, h7, h8, h9, k1, k2]
    exact hs
  obtain ⟨q1, q2, q3, q4, q5, q6, q7, q8, q9, q10⟩ := out_of lp
  obtain ⟨q, hq, u⟩ := w27 hX hv hw hp ht hP
  have hqq := hq.ne (show vL R t H P P.length ≠ [] by intro e; have := vL_len R t H P P.length; rw [e] at this; simp at this)
  subst hqq
  have gV : ∀ h, (ints (vL R t H P P.length))[P.length]'h = .int .i64 (vS R t H P P.length) := fun h => by
    have e := vL_get R t H P (n := P.length) (i := P.length) (by omega)
    have hk3 : P.length < (vL R t H P P.length).length := by rw [vL_len]; omega
    have e' : (vL R t H P P.length)[P.length] = vS R t H P P.length := by simpa [hk3] using e
    simp [ints, e']
  have lV := ints_len (vL R t H P P.length)
  rw [vL_len] at lV
  have b1 := rS_in ht P P.length
  have b2 := vS_in ht P P.length
  have hnn := ht.hn
  have hPn := hP.n
  have m1 := mul_in2 (a := t.worth) (b := vS R t H P P.length) ⟨ht.w0, ht.w1⟩ (by omega)
  have w1 : IntKind.i64.wrap (t.worth * vS R t H P P.length) = t.worth * vS R t H P P.length := wrp (by omega) (by omega)
  have w2 : IntKind.i64.wrap (rS R t H P P.length + t.worth * vS R t H P P.length) = rS R t H P P.length + t.worth * vS R t H P P.length := wrp (by omega) (by omega)
  have w3 : IntKind.i64.wrap (((P.length + 1 : Nat) : Int) - 1) = P.length := by rw [wrp (by omega) (by omega)]; omega
  have w3' : IntKind.i64.wrap ((P.length : Int) + 1 - 1) = P.length := w3
  have w3'' : IntKind.i64.wrap (P.length : Int) = P.length := wrp (by omega) (by omega)
  unfold Gives valS
  rw [Run_cut 2, o1, thenC_normal, show XCode.cutB 2 xf28.body = .block 0 (.loop xf28l0) from rfl, Run_block, q1, blockC_exit]
  generalize outT X (.loop xf28l0) _ _ = tm3 at *
  generalize outS X (.loop xf28l0) _ _ = σ3 at *
  unfold plV tkV at u
  generalize vS R t H P P.length = vv at *
  generalize rS R t H P P.length = rr at *
  generalize ints (vL R t H P P.length) = V at *
  have i1 : P.length < V.length := by omega
  simp [xf28, XCode.cutR, q2, q3, q4, q5, q6, q7, q9, q10, u, f1, f2, f6, i1, lV, gV, w1, w2, w3, w3', w3'', xload, xlen, AVal.cells, AVal.one, put_next, new_next, Store.get_new, Store.get_put, put_get, setR, only_get, merge_get', only_next, merge_next, upTo_self, upTo_one, merge_only, touch, wrote, isIn, okRec, hits, capsOf, xcaps, stripL, AVal.strip, freeL, AVal.free, fillR, chunks, mkV]
end
end Go.Proofs.Ytgijgcmcpgepaaa.Eng
