/-
  ENGINE, M: regions whose order is drawn: one order for all.
-/
import Derived.Test.YtgijgcmcpgepaaaEngL
namespace Go.Proofs.Ytgijgcmcpgepaaa.Eng
set_option linter.unusedSimpArgs false
set_option linter.unusedVariables false

/-- What the last one of some writers wrote. -/
def lastV {β : Type} (W : Nat → Option β) (S : Nat → Bool) (b : β) : Nat → β
  | 0 => b
  | k + 1 => if S k then (W k).getD (lastV W S b k) else lastV W S b k

theorem lastV_congr {β : Type} {W : Nat → Option β} {S S' : Nat → Bool} {b : β} : ∀ (N : Nat), (∀ j, j < N → (W j).isSome = true → S j = S' j) → lastV W S b N = lastV W S' b N
  | 0, _ => rfl
  | k + 1, h => by
    have ih := lastV_congr (b := b) k (fun j hj => h j (by omega))
    simp only [lastV]
    cases hw : W k with
    | none => simp [ih]
    | some v =>
      have := h k (by omega) (by simp [hw])
      simp [ih, this]
theorem lastV_none {β : Type} {W : Nat → Option β} {S : Nat → Bool} {b : β} {i : Nat} : ∀ (N : Nat), i ≤ N → (∀ j, i ≤ j → j < N → (W j).isSome = true → S j = false) → lastV W S b N = lastV W S b i
  | 0, hi, _ => by rw [Nat.le_zero.1 hi]
  | k + 1, hi, h => by
    rcases Nat.lt_or_ge k i with hk | hk
    · have : i = k + 1 := by omega
      rw [this]
    · rw [← lastV_none k hk (fun j h1 h2 => h j h1 (by omega))]
      simp only [lastV]
      cases hw : W k with
      | none => simp
      | some v =>
        have := h k hk (by omega) (by simp [hw])
        simp [this]
/-- One more that wrote. -/
theorem lastV_insert {β : Type} {W : Nat → Option β} {S : Nat → Bool} {b v : β} {i N : Nat} (hi : i < N) (hW : W i = some v) (h : ∀ j, i < j → j < N → (W j).isSome = true → S j = false) (hS : S i = true) : lastV W S b N = v := by
  rw [lastV_none N (i := i + 1) hi (fun j h1 h2 h3 => h j h1 h2 h3)]
  simp [lastV, hS, hW]

structure Inf where
  x : XOper
  tm : List AVal
  σ : Store
  v : AVal
  τ : Store
  tch : List Nat
  wr : List Nat
  deriving Inhabited

theorem xopd_congr {tm tm' : List AVal} {x : XOpd} (h : ∀ t, x = .t t → tm'[t]? = tm[t]?) : x.eval tm' = x.eval tm := by
  cases x with
  | t n => simp only [XOpd.eval, List.getD_eq_getElem?_getD, h n rfl]
  | c v => rfl
theorem tmpsOf_mem {l : List XOpd} {t : Nat} (h : XOpd.t t ∈ l) : t ∈ tmpsOf l := by
  unfold tmpsOf
  rw [List.mem_filterMap]
  exact ⟨_, h, rfl⟩
theorem xop_congr {o : XOp} {tm tm' : List AVal} {σ : Store} (h : ∀ t, t ∈ tmpsOf o.opds → tm'[t]? = tm[t]?) : xop o tm' σ = xop o tm σ := by
  have hev : ∀ x, x ∈ o.opds → x.eval tm' = x.eval tm := fun x hx => xopd_congr fun t ht => h t (tmpsOf_mem (ht ▸ hx))
  have hmap : ∀ l : List XOpd, (∀ x, x ∈ l → x ∈ o.opds) → l.map (XOpd.eval tm') = l.map (XOpd.eval tm) := fun l hl => List.map_congr_left fun x hx => hev x (hl x hx)
  have hparts : ∀ l : List (Nat × Nat × XOpd), (∀ p, p ∈ l → p.2.2 ∈ o.opds) → (l.map fun p => (p.1, p.2.1, XOpd.eval tm' p.2.2)) = l.map fun p => (p.1, p.2.1, XOpd.eval tm p.2.2) := fun l hl => List.map_congr_left fun p hp => by rw [hev _ (hl p hp)]
  cases o with
  | build zero ps =>
    have := hparts ps (fun p hp => by simp only [XOp.opds, List.mem_map]; exact ⟨p, hp, rfl⟩)
    simp only [xop, this]
  | buildSlice e s len agg zero ps =>
    have := hparts ps (fun p hp => by simp only [XOp.opds, List.mem_map]; exact ⟨p, hp, rfl⟩)
    simp only [xop, this]
  | buildSliceF e s len agg zero ps =>
    have := hparts ps (fun p hp => by simp only [XOp.opds, List.mem_map]; exact ⟨p, hp, rfl⟩)
    simp only [xop, this]
  | fn frz f a b =>
    have h1 := hmap a (fun x hx => by simp [XOp.opds, hx])
    have h2 := hmap b (fun x hx => by simp [XOp.opds, hx])
    simp only [xop, h1, h2]
  | call f args =>
    have h1 := hev f (by simp [XOp.opds])
    have h2 := hmap args (fun x hx => by simp [XOp.opds, hx])
    simp only [xop, h1, h2]
  | callK f args =>
    have h2 := hmap args (fun x hx => by simp [XOp.opds, hx])
    simp only [xop, h2]
  | ext m x xs =>
    have h1 := hev x (by simp [XOp.opds])
    have h2 := hmap xs (fun x hx => by simp [XOp.opds, hx])
    simp only [xop, h1, h2]
  | slice s x lo hi =>
    have h1 := hev x (by simp [XOp.opds])
    cases lo <;> cases hi <;> simp only [xop, h1] <;> simp [XOp.opds] at hev <;> simp [hev]
  | pick c a b =>
    have h1 := hev c (by simp [XOp.opds])
    have h2 := hev a (by simp [XOp.opds])
    have h3 := hev b (by simp [XOp.opds])
    simp only [xop, h1, h2, h3]
  | new e cs => rfl
  | _ => simp [XOp.opds] at hev <;> simp only [xop, hev]

theorem xwanted_congr {g : Option (Nat × Bool)} {tm tm' : List AVal} (h : ∀ t w, g = some (t, w) → tm'[t]? = tm[t]?) : xwanted g tm' = xwanted g tm := by
  cases g with
  | none => rfl
  | some p => obtain ⟨t, w⟩ := p; simp only [xwanted, h t w rfl]

theorem wanted_rel {P : Program} {nofz : List FuncId} {G : Ghost} {ops : Array Oper} {o : Oper} {x : XOper} {pre : List Nat} {tm : List AVal} {a : Act} (hx : xoper P nofz ops o pre = some x) (hr : ARel G tm a.tmps) : Region.wanted o (yielded ops a.tmps) = xwanted x.guard tm ∧ x.dst = o.dst ∧ xcompF P nofz ops o = some x.op ∧ x.pre = pre := by
  unfold xoper at hx
  split at hx <;> try (cases hx; done)
  rename_i xo hxo
  split at hx
  · rename_i hg
    cases hx
    exact ⟨by simp [Region.wanted, hg, xwanted], rfl, hxo, rfl⟩
  · rename_i j want hg
    split at hx <;> try (cases hx; done)
    rename_i t ht
    cases hx
    refine ⟨?_, rfl, hxo, rfl⟩
    simp only [Region.wanted, hg, xwanted, yielded, ht, Option.bind_some]
    cases hq : tm[t]? with
    | none =>
      have : a.tmps[t]? = none := by
        rw [Array.getElem?_eq_none]
        rw [← hr.len]
        exact List.getElem?_eq_none_iff.1 hq
      rw [this]; rfl
    | some v =>
      obtain ⟨u, h1, h2⟩ := hr.get hq
      rw [h1]
      cases h2 <;> first | (simp; done) | rfl | (simp; cases want <;> rfl)
end Go.Proofs.Ytgijgcmcpgepaaa.Eng
