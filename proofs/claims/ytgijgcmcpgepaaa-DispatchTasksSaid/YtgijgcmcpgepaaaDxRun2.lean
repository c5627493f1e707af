/-
  DISPATCH: plans that are checked.
-/
import Derived.Test.YtgijgcmcpgepaaaDxRun1
namespace Go.Proofs.Ytgijgcmcpgepaaa.Eng
set_option linter.unusedSimpArgs false
set_option linter.unusedVariables false
def misE (n : Nat) (P : List Int) : Int := (fiE (fun a => ixE a n) P 0).2
def brE (lo hi x : Int) : Int := if win x lo hi then 0 else 22
def pE (lo hi : Int) (R : List Md) (t : Tk) (H : List Hour) (P : List Int) : Int := if P.length = H.length then (if misE R.length P = 0 then (fiE (brE lo hi) (vL R t H P P.length) 0).2 else misE R.length P) else 10
theorem pin_of {R : List Md} {H : List Hour} {P : List Int} (h1 : P.length = H.length) (h2 : misE R.length P = 0) : PIn R H P := by
  refine ⟨h1, fun i hi => ?_⟩
  have e : P.getD i 0 = P[i] := by simp [hi]
  rw [e]
  have := fiE_all h2 P[i] (List.getElem_mem hi)
  unfold ixE at this
  split at this
  · assumption
  · omega
def ptCells (lo hi : Int) (v : AVal) (t : Tk) (w : AVal) : List AVal := [.int .i64 lo, .int .i64 hi, v, .int .i64 t.vol, .int .i64 t.mode, .int .i64 t.worth, w]
theorem cells_agg (cs : List AVal) : (AVal.agg cs).cells = cs := rfl
theorem cells_int (k : IntKind) (n : Int) : (AVal.int k n).cells = [.int k n] := rfl
theorem IntV.cells {L : List Int} {v : AVal} (h : IntV L v) : v.cells = [v] := by rcases h with rfl | ⟨rfl, _⟩ <;> rfl
theorem IntV.one {L : List Int} {v : AVal} (h : IntV L v) : v.one = true := by rcases h with rfl | ⟨rfl, _⟩ <;> rfl
section
variable {X : FuncId → Option XFunc} (hX : DxCCode X)
include hX
theorem w140 (lo hi : Int) {R : List Md} {v : AVal} (hv : LV 4 Md.enc R v) (t : Tk) {H : List Hour} {w : AVal} (hw : LV 3 Hour.enc H w) (a : Int) (σ : Store) : Run X (.call 140) [.int .i64 a, .iptr (ptCells lo hi v t w) 0] σ = some (.ret, [.int .i64 (ixE a R.length)], σ) := by
  have f1 := hv.free Md.fr
  have f2 := hw.free Hour.fr
  have fs : (AVal.iptr (ptCells lo hi v t w) 0).strip = .iptr (ptCells lo hi v t w) 0 ∧ (AVal.iptr (ptCells lo hi v t w) 0).free = true := by simp [ptCells, AVal.strip, stripL, AVal.free, freeL, f1, f2]
  refine call2 (a := .int .i64 a) (b := .iptr (ptCells lo hi v t w) 0) (v := .int .i64 (ixE a R.length)) hX.h140 rfl (by rw [fs.1]; exact fs.2) (by decide) (fun tm hl h0 h1 => ?_) rfl σ
  simp only [AVal.strip] at h0
  rw [fs.1] at h1
  replace hl : tm.length = 11 := hl
  have u := w77 hX.dxB a R.length
  obtain ⟨k1, k2⟩ := hv.len
  unfold ptCells at h1
  unfold Gives
  simp [xf140, hl, h0, h1, u, k1, k2, xload, AVal.cells]
theorem w141 (lo hi : Int) {R : List Md} {v : AVal} (hv : LV 4 Md.enc R v) (t : Tk) {H : List Hour} {w : AVal} (hw : LV 3 Hour.enc H w) (a : Int) (σ : Store) : Run X (.call 141) [.int .i64 a, .iptr (ptCells lo hi v t w) 0] σ = some (.ret, [.int .i64 (brE lo hi a)], σ) := by
  have f1 := hv.free Md.fr
  have f2 := hw.free Hour.fr
  have fs : (AVal.iptr (ptCells lo hi v t w) 0).strip = .iptr (ptCells lo hi v t w) 0 ∧ (AVal.iptr (ptCells lo hi v t w) 0).free = true := by simp [ptCells, AVal.strip, stripL, AVal.free, freeL, f1, f2]
  refine call2 (a := .int .i64 a) (b := .iptr (ptCells lo hi v t w) 0) (v := .int .i64 (brE lo hi a)) hX.h141 rfl (by rw [fs.1]; exact fs.2) (by decide) (fun tm hl h0 h1 => ?_) rfl σ
  simp only [AVal.strip] at h0
  rw [fs.1] at h1
  replace hl : tm.length = 9 := hl
  have u := w130 hX lo hi hv a
  have u2 := w71 hX.dxB.dxA
  unfold plV at u
  unfold ptCells at h1
  unfold Gives brE
  simp [xf141, hl, h0, h1, u, u2, f1, xload, AVal.cells]
omit hX in
theorem loop139 {F : FuncId} {caps : List AVal} {f : Int → Int} (hF : ∀ a σ, Run X (.call F) (.int .i64 a :: caps) σ = some (.ret, [.int .i64 (f a)], σ)) (L : List Int) {v : AVal} (hv : IntV L v) (hn : L.length ≤ 1000000000) : ∀ (k i : Nat), i + k = L.length → ∀ (tm : List AVal) (σ : Store), tm.length = 24 → XOpd.eval tm (.t 1) = .fn F [] caps → XOpd.eval tm (.t 9) = v → XOpd.eval tm (.t 10) = .int .i64 L.length → XOpd.eval tm (.t 11) = .int .i64 i →
    Ends (Run X (.code (.loop xf139l0)) tm σ) (if (fiE f (L.drop i) i).2 = 0 then .exit 0 else .ret) fun tm' _ => tm'.length = 24 ∧ ((fiE f (L.drop i) i).2 ≠ 0 → XOpd.eval tm' (.t 4) = .int .i64 (fiE f (L.drop i) i).1 ∧ XOpd.eval tm' (.t 5) = .int .i64 (fiE f (L.drop i) i).2)
  | 0, i, hk, tm, σ, hl, h1, h9, h10, h11 => by
    have hi : i = L.length := by omega
    subst hi
    rw [Run_loop]
    simp [xf139l0, hl, h1, h10, h11, fiE]
  | k + 1, i, hk, tm, σ, hl, h1, h9, h10, h11 => by
    have hi : i < L.length := by omega
    have hd : L.drop i = L[i] :: L.drop (i + 1) := List.drop_eq_getElem_cons hi
    have hw : IntKind.i64.wrap ((i : Int) + 1) = ((i + 1 : Nat) : Int) := by rw [wrap_i64] <;> omega
    have h9' : XOpd.eval tm (.t 9) = .list 1 (ints L) none := by rw [h9]; exact hv.ne (by intro e; simp [e] at hi)
    have u := hF L[i]
    rw [Run_loop, hd]
    by_cases he : f L[i] = 0
    · have ih := loop139 hF L hv hn k (i + 1) (by omega)
      rw [he] at u
      simp only [fiE, he, if_true]
      simp [xf139l0, hl, h1, h9', h10, h11, hi, hw, u, ints, xload, AVal.cells]
      exact ih _ _ (by simp [hl]) (by simp [hl, h1]) (by simp [hl, h9]) (by simp [hl, h10]) (by simp [hl])
    · simp only [fiE, he, if_false]
      simp [xf139l0, hl, h1, h9', h10, h11, hi, he, u, ints, xload, AVal.cells]
theorem w139 {F : FuncId} {caps : List AVal} {f : Int → Int} (hF : ∀ a σ, Run X (.call F) (.int .i64 a :: caps) σ = some (.ret, [.int .i64 (f a)], σ)) (hc : freeL caps = true) {L : List Int} {v : AVal} (hv : IntV L v) (hn : L.length ≤ 1000000000) (σ : Store) : Run X (.call 139) [v, .fn F [] caps] σ = some (.ret, [.tup [.int .i64 (fiE f L 0).1, .int .i64 (fiE f L 0).2]], σ) := by
  have f1 := hv.free
  have fs := freeL_strip hc
  refine call2 (a := v) (b := .fn F [] caps) (v := .tup [.int .i64 (fiE f L 0).1, .int .i64 (fiE f L 0).2]) hX.h139 (by rw [f1.2]; exact f1.1) (by simp [AVal.strip, stripL, AVal.free, freeL, fs, hc]) (by decide) (fun tm hl h0 h1 => ?_) rfl σ
  rw [f1.2] at h0
  simp only [AVal.strip, stripL, fs] at h1
  replace hl : tm.length = 24 := hl
  obtain ⟨hln, hdn⟩ := hv.len
  have hL := fun tm σ h1 h2 h3 h4 h5 => out_of (loop139 hF L hv hn L.length 0 (by omega) tm σ h1 h2 h3 h4 h5)
  simp only [List.drop_zero] at hL
  unfold Gives
  by_cases he : (fiE f L 0).2 = 0
  · have e1 : (fiE f L 0).1 = 0 := fiE_zero he
    simp only [he, if_true] at hL
    simp (maxDischargeDepth := 9) [xf139, hl, h0, h1, hL, he, e1, hln, hdn, xresult, xrets, xret_t]
  · simp only [he, if_false] at hL
    simp (maxDischargeDepth := 9) [xf139, hl, h0, h1, hL, he, hln, hdn, xresult, xrets, xret_t]
set_option maxHeartbeats 8000000 in
theorem w121 {lo hi : Int} {R : List Md} {v : AVal} (hv : LV 4 Md.enc R v) {t : Tk} {H : List Hour} {w : AVal} (hw : LV 3 Hour.enc H w) {P : List Int} {p : AVal} (hp : IntV P p) (hn : P.length ≤ 1000) (ht : TIn lo hi R t H) (σ : Store) : Run X (.call 121) [ptV lo hi v t w, p] σ = some (.ret, [.int .i64 (pE lo hi R t H P)], σ) := by
  have f1 := hv.free Md.fr
  have f2 := hw.free Hour.fr
  have f6 := hp.free
  have f5 := ptV_fr (lo := lo) (hi := hi) (t := t) f1 f2
  refine call2 (a := ptV lo hi v t w) (b := p) (v := .int .i64 (pE lo hi R t H P)) hX.h121 (by rw [f5.2]; exact f5.1) (by rw [f6.2]; exact f6.1) (by decide) (fun tm hl h0 h1 => ?_) rfl σ
  rw [f5.2] at h0
  rw [f6.2] at h1
  unfold ptV at h0
  replace hl : tm.length = 40 := hl
  have hc : freeL [AVal.iptr (ptCells lo hi v t w) 0] = true := by simp [ptCells, AVal.free, freeL, f1, f2]
  have u1 := w139 hX (w140 hX lo hi hv t hw) hc hp (by omega)
  have u2 := w71 hX.dxB.dxA
  have u3 := first2 hX.dxB.dxA
  obtain ⟨k1, k2⟩ := hp.len
  obtain ⟨k3, k4⟩ := hw.len
  have pc := hp.cells
  unfold Gives pE misE
  unfold ptCells at u1
  by_cases c1 : P.length = H.length
  · have c1' : (P.length : Int) = H.length := by omega
    by_cases c2 : (fiE (fun a => ixE a R.length) P 0).2 = 0
    · have hP : PIn R H P := pin_of c1 c2
      obtain ⟨q, hq, u4⟩ := w81 hX hv hw (lo := lo) (hi := hi) hp ht hP
      have u5 := w139 hX (w141 hX lo hi hv t hw) hc hq (by rw [vL_len]; omega)
      have f7 := hq.free
      unfold ptCells at u5
      unfold plnV at u4
      rw [if_pos c1, if_pos c2]
      simp [xf121, hl, h0, h1, u1, u2, u3, u4, u5, f1, f2, f6, f7, k1, k2, k3, k4, c1, c1', c2, pc, cells_agg, cells_int, firstNZ, fillR, xcaps, xload, Store.empty, Store.new, Store.put, Store.get, look, putL, setR, Store.only, Store.merge, touch, wrote, upTo, isIn, okRec, hits, capsOf, xcaps, stripL, AVal.strip, freeL, AVal.free, fillR, chunks, mkV, List.filter, -AVal.cells]
    · rw [if_pos c1, if_neg c2]
      simp [xf121, hl, h0, h1, u1, u2, u3, f1, f2, f6, k1, k2, k3, k4, c1, c1', c2, firstNZ, fillR, xcaps, xload, AVal.cells, Store.empty, Store.new, Store.put, Store.get, look, putL, setR, Store.only, Store.merge, touch, wrote, upTo, isIn, okRec, hits, capsOf, xcaps, stripL, AVal.strip, freeL, AVal.free, fillR, chunks, mkV, List.filter]
  · have c1' : ¬ (P.length : Int) = H.length := by omega
    rw [if_neg c1]
    simp [xf121, hl, h0, h1, u1, u2, u3, f1, f2, f6, k1, k2, k3, k4, c1, c1', firstNZ, fillR, xcaps, xload, AVal.cells, Store.empty, Store.new, Store.put, Store.get, look, putL, setR, Store.only, Store.merge, touch, wrote, upTo, isIn, okRec, hits, capsOf, xcaps, stripL, AVal.strip, freeL, AVal.free, fillR, chunks, mkV, List.filter]
end
end Go.Proofs.Ytgijgcmcpgepaaa.Eng

/-
  DISPATCH: plans, whole.
-/
namespace Go.Proofs.Ytgijgcmcpgepaaa.Eng
set_option linter.unusedSimpArgs false
set_option linter.unusedVariables false
def teE (lo hi : Int) (R : List Md) (t : Tk) (H : List Hour) (P : List Int) : Int := if (tkC lo hi R t H).2 = 0 then pE lo hi R t H P else (tkC lo hi R t H).2
def pln0 : AVal := .agg [.int .i64 0, .int .i64 0, .nils, .int .i64 0, .int .i64 0, .int .i64 0, .nils, .nils]
theorem teE_in {lo hi : Int} {R : List Md} {t : Tk} {H : List Hour} {P : List Int} (h : teE lo hi R t H P = 0) : TIn lo hi R t H ∧ PIn R H P := by
  unfold teE at h
  by_cases c : (tkC lo hi R t H).2 = 0
  · rw [if_pos c] at h
    refine ⟨tin_of c, ?_⟩
    unfold pE at h
    by_cases c1 : P.length = H.length
    · rw [if_pos c1] at h
      by_cases c2 : misE R.length P = 0
      · exact pin_of c1 c2
      · rw [if_neg c2] at h; exact absurd h c2
    · rw [if_neg c1] at h; omega
  · rw [if_neg c] at h; exact absurd h c
/-- What the law is given. -/
structure LIn (R : List Md) (H : List Hour) (P : List Int) (v w p : AVal) : Prop where
  v : LV 4 Md.enc R v
  w : LV 3 Hour.enc H w
  p : IntV P p
  rn : R.length ≤ 7
  rs : ∀ s, s ∈ R → s.nm.size ≤ 1000
  hn : H.length ≤ 12
  pn : P.length ≤ 12
section
variable {X : FuncId → Option XFunc} (hX : DxCCode X)
include hX
set_option maxHeartbeats 8000000 in
theorem w80 (lo hi : Int) (t : Tk) {R : List Md} {H : List Hour} {P : List Int} {v w p : AVal} (h : LIn R H P v w p) (σ : Store) : Run X (.call 80) [plV lo hi v, tkV t w, p] σ = some (.ret, [.tup [if teE lo hi R t H P = 0 then plnV lo hi v t w p else pln0, .int .i64 (teE lo hi R t H P)]], σ) := by
  have f1 := h.v.free Md.fr
  have f2 := h.w.free Hour.fr
  have f6 := h.p.free
  have f3 := plV_fr (lo := lo) (hi := hi) f1
  have f4 := tkV_fr (t := t) f2
  have f5 := plnV_fr (lo := lo) (hi := hi) (t := t) f1 f2 f6
  have rn := h.rn
  have hn := h.hn
  have pn := h.pn
  have u := w89 hX.dxB lo hi h.v (by omega) h.rs t h.w (by omega)
  have g1 := h.v.one
  have g2 := h.w.one
  have g3 := h.p.one
  have pc := h.p.cells
  have key : Run X (.call 80) [plV lo hi v, tkV t w, p] σ = some (.ret, [(AVal.tup [if teE lo hi R t H P = 0 then plnV lo hi v t w p else pln0, .int .i64 (teE lo hi R t H P)]).strip], σ) := by
    refine call3 (a := plV lo hi v) (b := tkV t w) (c := p) (v := .tup [if teE lo hi R t H P = 0 then plnV lo hi v t w p else pln0, .int .i64 (teE lo hi R t H P)]) hX.h80 (by rw [f3.2]; exact f3.1) (by rw [f4.2]; exact f4.1) (by rw [f6.2]; exact f6.1) (by decide) (fun tm hl h0 h1 h2 => ?_) (by split <;> simp [AVal.strip, stripL, AVal.free, freeL, f5, pln0]) σ
    rw [f3.2] at h0
    rw [f4.2] at h1
    rw [f6.2] at h2
    unfold plV at h0 u
    unfold tkV at h1 u
    replace hl : tm.length = 28 := hl
    unfold Gives teE
    by_cases c : (tkC lo hi R t H).2 = 0
    · have u2 := w121 hX h.v h.w (lo := lo) (hi := hi) (t := t) h.p (by omega) (tin_of c)
      rw [if_pos c] at u
      rw [c] at u
      unfold ptV at u u2
      rw [if_pos c]
      unfold plnV pln0
      by_cases c2 : pE lo hi R t H P = 0 <;> simp [xf80, hl, h0, h1, h2, u, u2, f1, f2, f6, g1, g2, g3, pc, c, c2, cells_agg, cells_int, fillR, xload, xresult, xrets, xret_t, xret_cn, Store.empty, Store.new, Store.put, Store.get, look, putL, setR, Store.only, Store.merge, touch, wrote, upTo, isIn, okRec, hits, capsOf, xcaps, stripL, AVal.strip, freeL, AVal.free, fillR, chunks, mkV, List.filter, -AVal.cells]
    · rw [if_neg c] at u
      unfold pt0 at u
      rw [if_neg c]
      unfold plnV pln0
      simp [xf80, hl, h0, h1, h2, u, f1, f2, f6, c, cells_agg, cells_int, fillR, xload, xresult, xrets, xret_t, xret_cn, Store.empty, Store.new, Store.put, Store.get, look, putL, setR, Store.only, Store.merge, touch, wrote, upTo, isIn, okRec, hits, capsOf, xcaps, stripL, AVal.strip, freeL, AVal.free, fillR, chunks, mkV, List.filter, -AVal.cells]
  rw [key]
  split <;> simp [AVal.strip, stripL, f5, pln0]
set_option maxHeartbeats 8000000 in
theorem w19bad (lo hi : Int) (t : Tk) {R : List Md} {H : List Hour} {P : List Int} {v w p : AVal} (h : LIn R H P v w p) (he : teE lo hi R t H P ≠ 0) (σ : Store) : Run X (.call 19) [plV lo hi v, tkV t w, p] σ = some (.ret, [.tup [.nils, .int .i64 (teE lo hi R t H P)]], σ) := by
  have f1 := h.v.free Md.fr
  have f2 := h.w.free Hour.fr
  have f6 := h.p.free
  have f3 := plV_fr (lo := lo) (hi := hi) f1
  have f4 := tkV_fr (t := t) f2
  have u := w80 hX lo hi t h
  rw [if_neg he] at u
  refine call3 (a := plV lo hi v) (b := tkV t w) (c := p) (v := .tup [.nils, .int .i64 (teE lo hi R t H P)]) hX.h19 (by rw [f3.2]; exact f3.1) (by rw [f4.2]; exact f4.1) (by rw [f6.2]; exact f6.1) (by decide) (fun tm hl h0 h1 h2 => ?_) rfl σ
  rw [f3.2] at h0
  rw [f4.2] at h1
  rw [f6.2] at h2
  unfold plV at h0 u
  unfold tkV at h1 u
  unfold pln0 at u
  replace hl : tm.length = 22 := hl
  unfold Gives
  simp [xf19, hl, h0, h1, h2, u, f1, f2, f6, he, cells_agg, cells_int, fillR, xload, xresult, xrets, xret_t, Store.empty, Store.new, Store.put, Store.get, look, putL, setR, Store.only, Store.merge, touch, wrote, upTo, isIn, okRec, hits, capsOf, xcaps, stripL, AVal.strip, freeL, AVal.free, fillR, chunks, mkV, List.filter, -AVal.cells]
set_option maxHeartbeats 8000000 in
theorem w21bad (lo hi : Int) (t : Tk) {R : List Md} {H : List Hour} {P : List Int} {v w p : AVal} (h : LIn R H P v w p) (he : teE lo hi R t H P ≠ 0) (σ : Store) : Run X (.call 21) [plV lo hi v, tkV t w, p] σ = some (.ret, [.tup [.int .i64 0, .int .i64 (teE lo hi R t H P)]], σ) := by
  have f1 := h.v.free Md.fr
  have f2 := h.w.free Hour.fr
  have f6 := h.p.free
  have f3 := plV_fr (lo := lo) (hi := hi) f1
  have f4 := tkV_fr (t := t) f2
  have u := w80 hX lo hi t h
  rw [if_neg he] at u
  refine call3 (a := plV lo hi v) (b := tkV t w) (c := p) (v := .tup [.int .i64 0, .int .i64 (teE lo hi R t H P)]) hX.h21 (by rw [f3.2]; exact f3.1) (by rw [f4.2]; exact f4.1) (by rw [f6.2]; exact f6.1) (by decide) (fun tm hl h0 h1 h2 => ?_) rfl σ
  rw [f3.2] at h0
  rw [f4.2] at h1
  rw [f6.2] at h2
  unfold plV at h0 u
  unfold tkV at h1 u
  unfold pln0 at u
  replace hl : tm.length = 22 := hl
  unfold Gives
  simp [xf21, hl, h0, h1, h2, u, f1, f2, f6, he, cells_agg, cells_int, fillR, xload, xresult, xrets, xret_t, Store.empty, Store.new, Store.put, Store.get, look, putL, setR, Store.only, Store.merge, touch, wrote, upTo, isIn, okRec, hits, capsOf, xcaps, stripL, AVal.strip, freeL, AVal.free, fillR, chunks, mkV, List.filter, -AVal.cells]
set_option maxHeartbeats 8000000 in
theorem w22bad (lo hi : Int) (t : Tk) {R : List Md} {H : List Hour} {P : List Int} {v w p : AVal} (h : LIn R H P v w p) (he : teE lo hi R t H P ≠ 0) (σ : Store) : Run X (.call 22) [plV lo hi v, tkV t w, p] σ = some (.ret, [.tup [.int .i64 0, .int .i64 (teE lo hi R t H P)]], σ) := by
  have f1 := h.v.free Md.fr
  have f2 := h.w.free Hour.fr
  have f6 := h.p.free
  have f3 := plV_fr (lo := lo) (hi := hi) f1
  have f4 := tkV_fr (t := t) f2
  have u := w80 hX lo hi t h
  rw [if_neg he] at u
  refine call3 (a := plV lo hi v) (b := tkV t w) (c := p) (v := .tup [.int .i64 0, .int .i64 (teE lo hi R t H P)]) hX.h22 (by rw [f3.2]; exact f3.1) (by rw [f4.2]; exact f4.1) (by rw [f6.2]; exact f6.1) (by decide) (fun tm hl h0 h1 h2 => ?_) rfl σ
  rw [f3.2] at h0
  rw [f4.2] at h1
  rw [f6.2] at h2
  unfold plV at h0 u
  unfold tkV at h1 u
  unfold pln0 at u
  replace hl : tm.length = 22 := hl
  unfold Gives
  simp [xf22, hl, h0, h1, h2, u, f1, f2, f6, he, cells_agg, cells_int, fillR, xload, xresult, xrets, xret_t, Store.empty, Store.new, Store.put, Store.get, look, putL, setR, Store.only, Store.merge, touch, wrote, upTo, isIn, okRec, hits, capsOf, xcaps, stripL, AVal.strip, freeL, AVal.free, fillR, chunks, mkV, List.filter, -AVal.cells]
set_option maxHeartbeats 8000000 in
theorem w19 (lo hi : Int) (t : Tk) {R : List Md} {H : List Hour} {P : List Int} {v w p : AVal} (h : LIn R H P v w p) (he : teE lo hi R t H P = 0) : ∃ q, IntV (vL R t H P P.length) q ∧ ∀ σ, Run X (.call 19) [plV lo hi v, tkV t w, p] σ = some (.ret, [.tup [q, .int .i64 0]], σ) := by
  have f1 := h.v.free Md.fr
  have f2 := h.w.free Hour.fr
  have f6 := h.p.free
  have f3 := plV_fr (lo := lo) (hi := hi) f1
  have f4 := tkV_fr (t := t) f2
  have u := w80 hX lo hi t h
  rw [if_pos he, he] at u
  obtain ⟨ht, hP⟩ := teE_in he
  obtain ⟨q, hq, u2⟩ := w81 hX h.v h.w (lo := lo) (hi := hi) h.p ht hP
  have f7 := hq.free
  have g1 := h.v.one
  have g2 := h.w.one
  have g3 := h.p.one
  refine ⟨q, hq, fun σ => ?_⟩
  have key : Run X (.call 19) [plV lo hi v, tkV t w, p] σ = some (.ret, [(AVal.tup [q, .int .i64 0]).strip], σ) := by
    refine call3 (a := plV lo hi v) (b := tkV t w) (c := p) (v := .tup [q, .int .i64 0]) hX.h19 (by rw [f3.2]; exact f3.1) (by rw [f4.2]; exact f4.1) (by rw [f6.2]; exact f6.1) (by decide) (fun tm hl h0 h1 h2 => ?_) (by simp [AVal.strip, stripL, AVal.free, freeL, f7]) σ
    rw [f3.2] at h0
    rw [f4.2] at h1
    rw [f6.2] at h2
    unfold plV at h0 u
    unfold tkV at h1 u
    unfold plnV at u u2
    replace hl : tm.length = 22 := hl
    unfold Gives
    simp [xf19, hl, h0, h1, h2, u, u2, f1, f2, f6, f7, g1, g2, g3, cells_agg, cells_int, fillR, xload, xresult, xrets, xret_t, Store.empty, Store.new, Store.put, Store.get, look, putL, setR, Store.only, Store.merge, touch, wrote, upTo, isIn, okRec, hits, capsOf, xcaps, stripL, AVal.strip, freeL, AVal.free, fillR, chunks, mkV, List.filter, -AVal.cells]
  simpa [AVal.strip, stripL, f7] using key
set_option maxHeartbeats 8000000 in
theorem w21 (lo hi : Int) (t : Tk) {R : List Md} {H : List Hour} {P : List Int} {v w p : AVal} (h : LIn R H P v w p) (he : teE lo hi R t H P = 0) (σ : Store) : Run X (.call 21) [plV lo hi v, tkV t w, p] σ = some (.ret, [.tup [.int .i64 (valS R t H P), .int .i64 0]], σ) := by
  have f1 := h.v.free Md.fr
  have f2 := h.w.free Hour.fr
  have f6 := h.p.free
  have f3 := plV_fr (lo := lo) (hi := hi) f1
  have f4 := tkV_fr (t := t) f2
  have u := w80 hX lo hi t h
  rw [if_pos he, he] at u
  obtain ⟨ht, hP⟩ := teE_in he
  have pn := h.pn
  have u2 := w82 hX h.v h.w (lo := lo) (hi := hi) h.p ht hP
  have g1 := h.v.one
  have g2 := h.w.one
  have g3 := h.p.one
  refine call3 (a := plV lo hi v) (b := tkV t w) (c := p) (v := .tup [.int .i64 (valS R t H P), .int .i64 0]) hX.h21 (by rw [f3.2]; exact f3.1) (by rw [f4.2]; exact f4.1) (by rw [f6.2]; exact f6.1) (by decide) (fun tm hl h0 h1 h2 => ?_) rfl σ
  rw [f3.2] at h0
  rw [f4.2] at h1
  rw [f6.2] at h2
  unfold plV at h0 u
  unfold tkV at h1 u
  unfold plnV at u u2
  replace hl : tm.length = 22 := hl
  unfold Gives
  simp [xf21, hl, h0, h1, h2, u, u2, f1, f2, f6, g1, g2, g3, cells_agg, cells_int, fillR, xload, xresult, xrets, xret_t, Store.empty, Store.new, Store.put, Store.get, look, putL, setR, Store.only, Store.merge, touch, wrote, upTo, isIn, okRec, hits, capsOf, xcaps, stripL, AVal.strip, freeL, AVal.free, fillR, chunks, mkV, List.filter, -AVal.cells]
set_option maxHeartbeats 8000000 in
theorem w22 (lo hi : Int) (t : Tk) {R : List Md} {H : List Hour} {P : List Int} {v w p : AVal} (h : LIn R H P v w p) (he : teE lo hi R t H P = 0) (σ : Store) : Run X (.call 22) [plV lo hi v, tkV t w, p] σ = some (.ret, [.tup [.int .i64 (sS t P P.length), .int .i64 0]], σ) := by
  have f1 := h.v.free Md.fr
  have f2 := h.w.free Hour.fr
  have f6 := h.p.free
  have f3 := plV_fr (lo := lo) (hi := hi) f1
  have f4 := tkV_fr (t := t) f2
  have u := w80 hX lo hi t h
  rw [if_pos he, he] at u
  obtain ⟨ht, hP⟩ := teE_in he
  have pn := h.pn
  have u2 := w83 hX (lo := lo) (hi := hi) f1 (t := t) f2 h.p (by omega)
  have g1 := h.v.one
  have g2 := h.w.one
  have g3 := h.p.one
  refine call3 (a := plV lo hi v) (b := tkV t w) (c := p) (v := .tup [.int .i64 (sS t P P.length), .int .i64 0]) hX.h22 (by rw [f3.2]; exact f3.1) (by rw [f4.2]; exact f4.1) (by rw [f6.2]; exact f6.1) (by decide) (fun tm hl h0 h1 h2 => ?_) rfl σ
  rw [f3.2] at h0
  rw [f4.2] at h1
  rw [f6.2] at h2
  unfold plV at h0 u
  unfold tkV at h1 u
  unfold plnV at u u2
  replace hl : tm.length = 22 := hl
  unfold Gives
  simp [xf22, hl, h0, h1, h2, u, u2, f1, f2, f6, g1, g2, g3, cells_agg, cells_int, fillR, xload, xresult, xrets, xret_t, Store.empty, Store.new, Store.put, Store.get, look, putL, setR, Store.only, Store.merge, touch, wrote, upTo, isIn, okRec, hits, capsOf, xcaps, stripL, AVal.strip, freeL, AVal.free, fillR, chunks, mkV, List.filter, -AVal.cells]
/-! The reference's. -/
omit hX in
theorem br_all (lo hi : Int) : ∀ (L : List Int) (i : Nat), (fiE (brE lo hi) L i).2 = if L.all (fun x => win x lo hi) then 0 else 22
  | [], _ => rfl
  | a :: L, i => by
    unfold fiE brE
    cases c : win a lo hi
    · simp [c]
    · have ih := br_all lo hi L (i + 1)
      unfold brE at ih
      simp [c, ih]
theorem loop87 (lo hi : Int) {v : AVal} (L : List Int) {q : AVal} (hq : IntV L q) (hn : L.length ≤ 1000000) : ∀ (k i : Nat), i + k = L.length → ∀ (tm : List AVal) (σ : Store), tm.length = 29 → XOpd.eval tm (.t 3) = .ptr 0 0 → XOpd.eval tm (.t 7) = q → XOpd.eval tm (.t 8) = .int .i64 i → σ.get 0 = some (.cells [.int .i64 lo, .int .i64 hi, v]) →
    Ends (Run X (.code (.loop xf87l0)) tm σ) (if (L.drop i).all (fun x => win x lo hi) then .exit 0 else .ret) fun tm' _ => tm'.length = 29 ∧ ((L.drop i).all (fun x => win x lo hi) = false → XOpd.eval tm' (.t 6) = .bool false)
  | 0, i, hk, tm, σ, hl, h3, h7, h8, g0 => by
    have hi' : i = L.length := by omega
    subst hi'
    obtain ⟨k1, k2⟩ := hq.len
    rw [Run_loop]
    simp [xf87l0, hl, h3, h7, h8, g0, k1, k2]
  | k + 1, i, hk, tm, σ, hl, h3, h7, h8, g0 => by
    have hi' : i < L.length := by omega
    have hii : (i : Int) < L.length := by omega
    have hd : L.drop i = L[i] :: L.drop (i + 1) := List.drop_eq_getElem_cons hi'
    have hw : IntKind.i64.wrap ((i : Int) + 1) = ((i + 1 : Nat) : Int) := by rw [wrap_i64] <;> omega
    have hqq : q = .list 1 (ints L) none := hq.ne (by intro e; simp [e] at hi')
    have gm : ∀ h, (ints L)[i]'h = .int .i64 L[i] := fun h => by simp [ints]
    have hlm := ints_len L
    have hi2 : i < (ints L).length := by rw [hlm]; exact hi'
    have u := w33 hX.dxB.dxA L[i] lo hi
    rw [Run_loop, hd]
    cases he : win L[i] lo hi with
    | true =>
      rw [he] at u
      have key : Ends (Run X (.code xf87l0) tm σ) .normal fun tm' σ' => tm'.length = 29 ∧ XOpd.eval tm' (.t 3) = .ptr 0 0 ∧ XOpd.eval tm' (.t 7) = q ∧ XOpd.eval tm' (.t 8) = .int .i64 ((i + 1 : Nat) : Int) ∧ σ'.get 0 = some (.cells [.int .i64 lo, .int .i64 hi, v]) := by
        rw [hqq] at h7 ⊢
        generalize ints L = A at *
        simp [xf87l0, hl, h3, h7, h8, g0, hi', hi2, hii, hlm, hw, gm, u, xload, xlen, AVal.cells, AVal.one, put_next, new_next, Store.get_new, Store.get_put, put_get, setR, only_get, merge_get', only_next, merge_next, upTo_self, upTo_one, merge_only, touch, wrote, isIn, okRec, hits, capsOf, xcaps, stripL, AVal.strip, freeL, AVal.free, fillR, chunks, mkV]
      obtain ⟨o1, p1, p2, p3, p4, p5⟩ := out_of key
      rw [o1, thenC_normal]
      have := loop87 lo hi L hq hn k (i + 1) (by omega) _ _ p1 p2 p3 p4 p5
      simpa only [List.all_cons, he, Bool.true_and] using this
    | false =>
      rw [he] at u
      simp only [List.all_cons, he, Bool.false_and, Bool.false_eq_true, if_false]
      rw [hqq] at h7
      generalize ints L = A at *
      simp [xf87l0, hl, h3, h7, h8, g0, hi', hi2, hii, hlm, gm, u, xload, xlen, AVal.cells, AVal.one, put_next, new_next, Store.get_new, Store.get_put, put_get, setR, only_get, merge_get', only_next, merge_next, upTo_self, upTo_one, merge_only, touch, wrote, isIn, okRec, hits, capsOf, xcaps, stripL, AVal.strip, freeL, AVal.free, fillR, chunks, mkV]
theorem w87 (lo hi : Int) (t : Tk) {R : List Md} {H : List Hour} {P : List Int} {v w p : AVal} (h : LIn R H P v w p) (ht : TIn lo hi R t H) (hP : PIn R H P) (σ : Store) : Run X (.call 87) [plV lo hi v, tkV t w, p] σ = some (.ret, [.bool ((vL R t H P P.length).all fun x => win x lo hi)], σ) := by
  have f1 := h.v.free Md.fr
  have f2 := h.w.free Hour.fr
  have f6 := h.p.free
  have f3 := plV_fr (lo := lo) (hi := hi) f1
  have f4 := tkV_fr (t := t) f2
  have pn := h.pn
  obtain ⟨q, hq, u⟩ := w27 hX h.v h.w (lo := lo) (hi := hi) h.p ht hP
  refine call3 (a := plV lo hi v) (b := tkV t w) (c := p) (v := .bool ((vL R t H P P.length).all fun x => win x lo hi)) hX.h87 (by rw [f3.2]; exact f3.1) (by rw [f4.2]; exact f4.1) (by rw [f6.2]; exact f6.1) (by decide) (fun tm hl h0 h1 h2 => ?_) rfl σ
  rw [f3.2] at h0
  rw [f4.2] at h1
  rw [f6.2] at h2
  unfold plV at h0 u
  unfold tkV at h1 u
  replace hl : tm.length = 29 := hl
  have eP : Ends (Run X (.code (XCode.cutP 2 xf87.body)) tm Store.empty) .normal fun tm' σ' => tm'.length = 29 ∧ XOpd.eval tm' (.t 3) = .ptr 0 0 ∧ XOpd.eval tm' (.t 7) = q ∧ XOpd.eval tm' (.t 8) = .int .i64 ((0 : Nat) : Int) ∧ σ'.get 0 = some (.cells [.int .i64 lo, .int .i64 hi, v]) := by
    simp [xf87, XCode.cutP, hl, h0, h1, h2, u, f1, f2, f6, xload, AVal.cells, AVal.one, Store.empty, Store.new, Store.put, Store.get, look, putL, setR, Store.only, Store.merge, touch, wrote, upTo, isIn, okRec, hits, capsOf, xcaps, stripL, AVal.strip, freeL, AVal.free, fillR, chunks, mkV, List.filter]
  obtain ⟨o1, p1, p2, p3, p4, p5⟩ := out_of eP
  obtain ⟨q1, q2, q3⟩ := out_of (loop87 hX lo hi (vL R t H P P.length) hq (by rw [vL_len]; omega) (vL R t H P P.length).length 0 (by omega) _ _ p1 p2 p3 p4 p5)
  simp only [List.drop_zero] at q1 q3
  unfold Gives
  rw [Run_cut 2, o1, thenC_normal, show XCode.cutB 2 xf87.body = .block 0 (.loop xf87l0) from rfl, Run_block, q1]
  generalize outT X (.loop xf87l0) _ _ = tm3 at *
  generalize outS X (.loop xf87l0) _ _ = σ3 at *
  cases he : (vL R t H P P.length).all (fun x => win x lo hi) with
  | true => simp [xf87, XCode.cutR, q2]
  | false =>
    have q3 := q3 he
    simp [xf87, XCode.cutR, q2, q3]
theorem loop25 {lo hi : Int} {R : List Md} {v : AVal} (hv : LV 4 Md.enc R v) (hr : R.length ≤ 1000) (L : List Int) {q : AVal} (hq : IntV L q) (hn : L.length ≤ 1000000) : ∀ (k i : Nat), i + k = L.length → ∀ (tm : List AVal) (σ : Store), tm.length = 35 → XOpd.eval tm (.t 3) = .ptr 0 0 → XOpd.eval tm (.t 4) = .ptr 1 0 → XOpd.eval tm (.t 2) = q → XOpd.eval tm (.t 7) = .int .i64 i → σ.get 0 = some (.cells [.int .i64 lo, .int .i64 hi, v]) → ∀ {g : NObj}, σ.get 1 = some g →
    Ends (Run X (.code (.loop xf25l0)) tm σ) (if (fiE (fun a => ixE a R.length) (L.drop i) i).2 = 0 then .exit 0 else .ret) fun tm' σ' => tm'.length = 35 ∧ XOpd.eval tm' (.t 3) = .ptr 0 0 ∧ XOpd.eval tm' (.t 4) = .ptr 1 0 ∧ XOpd.eval tm' (.t 2) = q ∧ σ'.get 0 = some (.cells [.int .i64 lo, .int .i64 hi, v]) ∧ σ'.get 1 = some g ∧ ((fiE (fun a => ixE a R.length) (L.drop i) i).2 ≠ 0 → XOpd.eval tm' (.t 6) = .int .i64 6)
  | 0, i, hk, tm, σ, hl, h3, h4, h2, h7, g0, g, g1 => by
    have hi' : i = L.length := by omega
    subst hi'
    obtain ⟨k1, k2⟩ := hq.len
    rw [Run_loop]
    simp [xf25l0, hl, h3, h4, h2, h7, g0, g1, k1, k2, fiE]
  | k + 1, i, hk, tm, σ, hl, h3, h4, h2, h7, g0, g, g1 => by
    have hi' : i < L.length := by omega
    have hii : (i : Int) < L.length := by omega
    have hd : L.drop i = L[i] :: L.drop (i + 1) := List.drop_eq_getElem_cons hi'
    have hw : IntKind.i64.wrap ((i : Int) + 1) = ((i + 1 : Nat) : Int) := by rw [wrap_i64] <;> omega
    have hwr : IntKind.i64.wrap ((R.length : Int) - 1) = R.length - 1 := wrp (by omega) (by omega)
    have hqq : q = .list 1 (ints L) none := hq.ne (by intro e; simp [e] at hi')
    have gm : ∀ h, (ints L)[i]'h = .int .i64 L[i] := fun h => by simp [ints]
    have hlm := ints_len L
    have hi2 : i < (ints L).length := by rw [hlm]; exact hi'
    have u := w33 hX.dxB.dxA L[i] 0 (R.length - 1)
    obtain ⟨k1, k2⟩ := hv.len
    have h2' := h2
    rw [Run_loop, hd]
    by_cases c : 0 ≤ L[i] ∧ L[i] < R.length
    · have he : ixE L[i] R.length = 0 := by unfold ixE; rw [if_pos c]
      have hc : win L[i] 0 (R.length - 1) = true := win_iff.2 (by omega)
      rw [hc] at u
      have key : Ends (Run X (.code xf25l0) tm σ) .normal fun tm' σ' => tm'.length = 35 ∧ XOpd.eval tm' (.t 3) = .ptr 0 0 ∧ XOpd.eval tm' (.t 4) = .ptr 1 0 ∧ XOpd.eval tm' (.t 2) = q ∧ XOpd.eval tm' (.t 7) = .int .i64 ((i + 1 : Nat) : Int) ∧ σ'.get 0 = some (.cells [.int .i64 lo, .int .i64 hi, v]) ∧ σ'.get 1 = some g := by
        rw [hqq] at h2 ⊢
        generalize ints L = A at *
        simp [xf25l0, hl, h3, h4, h2, h7, g0, g1, hi', hi2, hii, hlm, hw, hwr, gm, u, k1, k2, xload, AVal.cells, AVal.one, put_next, new_next, Store.get_new, Store.get_put, put_get, setR, only_get, merge_get', only_next, merge_next, upTo_self, upTo_one, merge_only, touch, wrote, isIn, okRec, hits, capsOf, xcaps, stripL, AVal.strip, freeL, AVal.free, fillR, chunks, mkV]
      obtain ⟨o1, p1, p2, p3, p4, p5, p6, p7⟩ := out_of key
      rw [o1, thenC_normal]
      simp only [fiE, he, if_true]
      exact loop25 hv hr L hq hn k (i + 1) (by omega) _ _ p1 p2 p3 p4 p5 p6 p7
    · have he : ixE L[i] R.length = 6 := by unfold ixE; rw [if_neg c]
      have hc : win L[i] 0 (R.length - 1) = false := by
        cases e : win L[i] 0 (R.length - 1) with
        | false => rfl
        | true => have := win_iff.1 e; exact absurd (by omega) c
      rw [hc] at u
      have he' : ¬ ixE L[i] R.length = 0 := by omega
      simp only [fiE, he', if_false]
      rw [hqq] at h2 ⊢
      generalize ints L = A at *
      simp [xf25l0, hl, h3, h4, h2, h7, g0, g1, hi', hi2, hii, hlm, hwr, gm, u, k1, k2, xload, AVal.cells, AVal.one, put_next, new_next, Store.get_new, Store.get_put, put_get, setR, only_get, merge_get', only_next, merge_next, upTo_self, upTo_one, merge_only, touch, wrote, isIn, okRec, hits, capsOf, xcaps, stripL, AVal.strip, freeL, AVal.free, fillR, chunks, mkV]
end
end Go.Proofs.Ytgijgcmcpgepaaa.Eng

/-
  DISPATCH: powers that follow; copies; lists that are the same.
-/
namespace Go.Proofs.Ytgijgcmcpgepaaa.Eng
set_option linter.unusedSimpArgs false
set_option linter.unusedVariables false
theorem ones_ints (L : List Int) : ones (ints L) = true := by simp [ones, ints, AVal.cells, AVal.one]
section
variable {X : FuncId → Option XFunc} (hX : DxACode X)
include hX
theorem w20 {L : List Int} {s : AVal} (h : IntV L s) (hn : L.length ≤ 1000000) (σ : Store) : Run X (.call 20) [s] σ = some (.ret, [.list 1 (ints L) none], σ) := by
  have fr := ints_fr L
  have key : Run X (.call 20) [s] σ = some (.ret, [(AVal.list 1 (ints L) (some 0)).strip], σ) := by
    refine call1 (a := s) (v := .list 1 (ints L) (some 0)) hX.h20 (by rw [h.free.2]; exact h.free.1) (by decide) (fun tm hl h0 => ?_) (by simp [AVal.strip, AVal.free, freeL_strip fr, fr]) σ
    rw [h.free.2] at h0
    replace hl : tm.length = 6 := hl
    unfold Gives
    cases L with
    | nil =>
      rcases h with e | ⟨e, _⟩ <;> rw [e] at h0 <;> simp [xf20, hl, h0, xappend, AVal.isSlice, ints, ones, xresult_one, xret_t, Store.empty, Store.new, Store.put, Store.get, look, putL, setR, Store.only, Store.merge, touch, wrote, upTo, isIn, okRec, hits, capsOf, xcaps, stripL, AVal.strip, freeL, AVal.free, fillR, chunks, mkV, List.filter]
    | cons a l =>
      have e := h.ne (by simp)
      have ho := ones_ints (a :: l)
      have hil : ints (a :: l) = .int .i64 a :: ints l := rfl
      have hlen := ints_len l
      rw [e, hil] at h0
      rw [hil] at ho
      simp only [List.length_cons] at hn
      have b1 : (l.length + 1) * 8 ≤ 1000000000000 := by omega
      have b2 : l.length + 1 ≤ 1000000000000 := by omega
      simp [xf20, hl, h0, ho, hlen, b1, b2, hil, xappend, AVal.isSlice, xresult_one, xret_t, Store.empty, Store.new, Store.put, Store.get, look, putL, setR, Store.only, Store.merge, touch, wrote, upTo, isIn, okRec, hits, capsOf, xcaps, stripL, AVal.strip, freeL, AVal.free, fillR, chunks, mkV, List.filter]
  simpa [AVal.strip, freeL_strip fr] using key
omit hX in
theorem loop26 (L : List Int) {w v : AVal} (hw : IntV L w) (hv : IntV L v) (hn : L.length ≤ 1000000000) : ∀ (k i : Nat), i + k = L.length → ∀ (tm : List AVal) (σ : Store), tm.length = 26 → XOpd.eval tm (.t 0) = w → XOpd.eval tm (.t 1) = v → XOpd.eval tm (.t 5) = .int .i64 i →
    Ends (Run X (.code (.loop xf26l0)) tm σ) (.exit 0) fun tm' _ => tm'.length = 26
  | 0, i, hk, tm, σ, hl, h0, h1, h5 => by
    have hi : i = L.length := by omega
    subst hi
    obtain ⟨hx, hd⟩ := hw.len
    rw [Run_loop]
    simp [xf26l0, hl, h0, h5, hx, hd]
  | k + 1, i, hk, tm, σ, hl, h0, h1, h5 => by
    have hi : i < L.length := by omega
    have hiw : IntKind.i64.wrap ((i : Int) + 1) = ((i + 1 : Nat) : Int) := by rw [wrap_i64] <;> omega
    have e0 : XOpd.eval tm (.t 0) = .list 1 (ints L) none := by rw [h0]; exact hw.ne (by intro e; simp [e] at hi)
    have e1 : XOpd.eval tm (.t 1) = .list 1 (ints L) none := by rw [h1]; exact hv.ne (by intro e; simp [e] at hi)
    have hg := ints_get hi
    have hln := ints_len L
    have ih := loop26 L hw hv hn k (i + 1) (by omega)
    have key : Ends (Run X (.code xf26l0) tm σ) .normal fun tm' _ => tm'.length = 26 ∧ XOpd.eval tm' (.t 0) = .list 1 (ints L) none ∧ XOpd.eval tm' (.t 1) = .list 1 (ints L) none ∧ XOpd.eval tm' (.t 5) = .int .i64 ((i + 1 : Nat) : Int) := by
      simp [xf26l0, hl, e0, e1, h5, hi, hiw, ints, xload, xlen, AVal.cells, put_next, new_next, Store.get_new, Store.get_put, put_get, setR, only_get, merge_get', only_next, merge_next, upTo_self, upTo_one, merge_only, touch, wrote, isIn, okRec, hits, capsOf, xcaps, stripL, AVal.strip, freeL, AVal.free, fillR, chunks, mkV]
    obtain ⟨o1, o2, o3, o4, o5⟩ := out_of key
    rw [Run_loop, o1, thenC_normal]
    exact ih _ _ o2 (by rw [o3, ← h0, e0]) (by rw [o4, ← h1, e1]) o5
theorem w26 {L : List Int} {w v : AVal} (hw : IntV L w) (hv : IntV L v) (hn : L.length ≤ 1000000000) (σ : Store) : Run X (.call 26) [w, v] σ = some (.ret, [.bool true], σ) := by
  have hL := fun tm σ h1 h2 h3 h4 => out_of (loop26 (X := X) L hw hv hn L.length 0 (by omega) tm σ h1 h2 h3 h4)
  obtain ⟨hx, hd⟩ := hw.len
  obtain ⟨hy, hd'⟩ := hv.len
  have c0 : ((0 : Nat) : Int) = 0 := rfl
  simp only [c0] at hL
  refine call2 (v := .bool true) hX.h26 (by rw [hw.free.2]; exact hw.free.1) (by rw [hv.free.2]; exact hv.free.1) (by decide) (fun tm hl h0 h1 => ?_) rfl σ
  rw [hw.free.2] at h0
  rw [hv.free.2] at h1
  replace hl : tm.length = 26 := hl
  unfold Gives
  simp (maxDischargeDepth := 9) [xf26, hl, h0, h1, hx, hy, hd, hd', hL, Store.empty, Store.new, Store.put, Store.get, look, putL, setR, Store.only, Store.merge, touch, wrote, upTo, isIn, okRec, hits, capsOf, xcaps, stripL, AVal.strip, freeL, AVal.free, fillR, chunks, mkV, List.filter]
/-! Powers that follow, of the program. -/
omit hX in
def I46 (s r : Int) (L : List Int) (v : AVal) (i : Nat) (tm : List AVal) (σ : Store) : Prop :=
  tm.length = 48 ∧ XOpd.eval tm (.t 1) = .int .i64 r ∧ XOpd.eval tm (.t 10) = .int .i64 (fS s r L i) ∧ XOpd.eval tm (.t 27) = v ∧ XOpd.eval tm (.t 28) = .int .i64 L.length ∧ XOpd.eval tm (.t 29) = .int .i64 i ∧ OutG 3 1 σ 0 (ints (folL s r L i)) (XOpd.eval tm (.t 9))
omit hX in
theorem round46 {s r : Int} {L : List Int} {v : AVal} (hv : IntV L v) (h : FIn s r L) (i : Nat) (hi : i < L.length) (tm : List AVal) (σ : Store) (hI : I46 s r L v i tm σ) : Ends (Run X (.code xf46l0) tm σ) .normal (I46 s r L v (i + 1)) := by
  obtain ⟨hl, h1, h10, h27, h28, h29, ho⟩ := hI
  have hn := h.n
  have hiw : IntKind.i64.wrap ((i : Int) + 1) = ((i + 1 : Nat) : Int) := by rw [wrap_i64] <;> omega
  have hvv : v = .list 1 (ints L) none := hv.ne (by intro e; simp [e] at hi)
  subst hvv
  have hg := ints_get hi
  have hgd : L.getD i 0 = L[i] := by simp [hi]
  have hd := h.at i
  have r0 := h.r0
  have r1 := h.r1
  have eS : fS s r L (i + 1) = nxP r (fS s r L i) L[i] := by show nxP r _ (L.getD i 0) = _; rw [hgd]
  have hlen := folL_len s r L i
  have eF : ints (folL s r L (i + 1)) = ints (folL s r L i) ++ [.int .i64 (nxP r (fS s r L i) L[i])] := by rw [folL_succ, ints_app, eS]
  unfold I46
  rw [eF, eS]
  generalize folL s r L i = P at *
  generalize fS s r L i = p at *
  generalize hvo : XOpd.eval tm (.t 9) = vo at *
  have hpl := ints_len P
  obtain ⟨v', σ', a1, a2, a3, a4⟩ := out_append (bytes := 8) (ho.tok (.tok 3 1 1)) (Nat.zero_le _) (x := .int .i64 (nxP r p L[i])) rfl (by decide) (by omega) (by omega) (some σ.next)
  have w1 : IntKind.i64.wrap (p - r) = p - r := wrp (by omega) (by omega)
  have w2 : IntKind.i64.wrap (p + r) = p + r := wrp (by omega) (by omega)
  have e : Ends (Run X (.code xf46l0) tm σ) .normal fun tm' σ'' => tm'.length = 48 ∧ XOpd.eval tm' (.t 1) = .int .i64 r ∧ XOpd.eval tm' (.t 10) = .int .i64 (nxP r p L[i]) ∧ XOpd.eval tm' (.t 27) = .list 1 (ints L) none ∧ XOpd.eval tm' (.t 28) = .int .i64 L.length ∧ XOpd.eval tm' (.t 29) = .int .i64 ((i + 1 : Nat) : Int) ∧ XOpd.eval tm' (.t 9) = v' ∧ σ'' = σ' := by
    have n1 : imin (imax L[i] (p - r)) (p + r) = nxP r p L[i] := rfl
    simp [xf46l0, hl, h1, h10, h27, h28, h29, hvo, hi, hg, hiw, w1, w2, a1, n1, ints, xext, xmm_max, xmm_min, xload, AVal.cells, put_next, new_next, Store.get_new, Store.get_put, put_get, setR, only_get, merge_get', only_next, merge_next, upTo_self, upTo_one, merge_only, touch, wrote, isIn, okRec, hits, capsOf, xcaps, stripL, AVal.strip, freeL, AVal.free, fillR, chunks, mkV, -xmm]
  obtain ⟨o1, p1, p2, p3, p4, p5, p6, p7, p8⟩ := out_of e
  exact ⟨_, _, o1, p1, p2, p3, p4, p5, p6, by rw [p7, p8]; exact a2⟩
end
end Go.Proofs.Ytgijgcmcpgepaaa.Eng

/-
  DISPATCH: the law of tasks.
-/
namespace Go.Proofs.Ytgijgcmcpgepaaa.Eng
set_option linter.unusedSimpArgs false
set_option linter.unusedVariables false
theorem mis_six (n : Nat) : ∀ (L : List Int) (i : Nat), (fiE (fun a => ixE a n) L i).2 = 0 ∨ (fiE (fun a => ixE a n) L i).2 = 6
  | [], _ => .inl rfl
  | a :: L, i => by
    unfold fiE
    by_cases c : 0 ≤ a ∧ a < n
    · have e : ixE a n = 0 := by unfold ixE; rw [if_pos c]
      simp only [e, if_true]; exact mis_six n L (i + 1)
    · have e : ixE a n = 6 := by unfold ixE; rw [if_neg c]
      simp [e]
section
variable {X : FuncId → Option XFunc} (hX : DxCCode X)
include hX
set_option maxHeartbeats 8000000 in
theorem w25 (lo hi : Int) (t : Tk) {R : List Md} {H : List Hour} {P : List Int} {v w p : AVal} (h : LIn R H P v w p) (ht : TIn lo hi R t H) (σ : Store) : Run X (.call 25) [plV lo hi v, tkV t w, p] σ = some (.ret, [.int .i64 (pE lo hi R t H P)], σ) := by
  have f1 := h.v.free Md.fr
  have f2 := h.w.free Hour.fr
  have f6 := h.p.free
  have f3 := plV_fr (lo := lo) (hi := hi) f1
  have f4 := tkV_fr (t := t) f2
  have pn := h.pn
  have rn := h.rn
  refine call3 (a := plV lo hi v) (b := tkV t w) (c := p) (v := .int .i64 (pE lo hi R t H P)) hX.h25 (by rw [f3.2]; exact f3.1) (by rw [f4.2]; exact f4.1) (by rw [f6.2]; exact f6.1) (by decide) (fun tm hl h0 h1 h2 => ?_) rfl σ
  rw [f3.2] at h0
  rw [f4.2] at h1
  rw [f6.2] at h2
  unfold plV at h0
  unfold tkV at h1
  replace hl : tm.length = 35 := hl
  obtain ⟨k1, k2⟩ := h.p.len
  obtain ⟨k3, k4⟩ := h.w.len
  unfold Gives pE misE
  by_cases c1 : P.length = H.length
  · have c1' : (P.length : Int) = H.length := by omega
    have eP : Ends (Run X (.code (XCode.cutP 2 xf25.body)) tm Store.empty) .normal fun tm' σ' => tm'.length = 35 ∧ XOpd.eval tm' (.t 3) = .ptr 0 0 ∧ XOpd.eval tm' (.t 4) = .ptr 1 0 ∧ XOpd.eval tm' (.t 2) = p ∧ XOpd.eval tm' (.t 7) = .int .i64 ((0 : Nat) : Int) ∧ σ'.get 0 = some (.cells [.int .i64 lo, .int .i64 hi, v]) ∧ σ'.get 1 = some (.cells [.int .i64 t.vol, .int .i64 t.mode, .int .i64 t.worth, w]) := by
      simp [xf25, XCode.cutP, hl, h0, h1, h2, k1, k2, k3, k4, c1, c1', xload, AVal.cells, AVal.one, Store.empty, Store.new, Store.put, Store.get, look, putL, setR, Store.only, Store.merge, touch, wrote, upTo, isIn, okRec, hits, capsOf, xcaps, stripL, AVal.strip, freeL, AVal.free, fillR, chunks, mkV, List.filter]
    obtain ⟨o1, p1, p2, p3, p4, p5, p6, p7⟩ := out_of eP
    obtain ⟨q1, q2, q3, q4, q5, q6, q7, q8⟩ := out_of (loop25 hX h.v (by omega) P h.p (by omega) P.length 0 (by omega) _ _ p1 p2 p3 p4 p5 p6 p7)
    simp only [List.drop_zero] at q1 q8
    rw [Run_cut 2, o1, thenC_normal, show XCode.cutB 2 xf25.body = .block 0 (.loop xf25l0) from rfl, Run_block, q1]
    generalize outT X (.loop xf25l0) _ _ = tm3 at *
    generalize outS X (.loop xf25l0) _ _ = σ3 at *
    rw [if_pos c1]
    by_cases c2 : (fiE (fun a => ixE a R.length) P 0).2 = 0
    · have u := w87 hX lo hi t h ht (pin_of c1 c2)
      unfold plV tkV at u
      rw [if_pos c2, if_pos c2, br_all]
      cases c3 : (vL R t H P P.length).all fun x => win x lo hi
      · rw [c3] at u
        simp [xf25, XCode.cutR, q2, q3, q4, q5, q6, q7, u, f1, f2, f6, xload, AVal.cells, AVal.one, put_next, new_next, Store.get_new, Store.get_put, put_get, setR, only_get, merge_get', only_next, merge_next, upTo_self, upTo_one, merge_only, touch, wrote, isIn, okRec, hits, capsOf, xcaps, stripL, AVal.strip, freeL, AVal.free, fillR, chunks, mkV]
      · rw [c3] at u
        simp [xf25, XCode.cutR, q2, q3, q4, q5, q6, q7, u, f1, f2, f6, xload, AVal.cells, AVal.one, put_next, new_next, Store.get_new, Store.get_put, put_get, setR, only_get, merge_get', only_next, merge_next, upTo_self, upTo_one, merge_only, touch, wrote, isIn, okRec, hits, capsOf, xcaps, stripL, AVal.strip, freeL, AVal.free, fillR, chunks, mkV]
    · have c6 := (mis_six R.length P 0).resolve_left c2
      rw [if_neg c2, if_neg c2, c6]
      have q8 := q8 c2
      simp [xf25, XCode.cutR, q2, q8]
  · have c1' : ¬ (P.length : Int) = H.length := by omega
    rw [if_neg c1]
    simp [xf25, hl, h0, h1, h2, k1, k2, k3, k4, c1, c1', xload, AVal.cells, AVal.one, Store.empty, Store.new, Store.put, Store.get, look, putL, setR, Store.only, Store.merge, touch, wrote, upTo, isIn, okRec, hits, capsOf, xcaps, stripL, AVal.strip, freeL, AVal.free, fillR, chunks, mkV, List.filter]
set_option maxHeartbeats 16000000 in
theorem w3 (hA : ∀ σ, Run X (.call 12) [] σ = some (.ret, [.bool true], σ)) (lo hi : Int) (t : Tk) {R : List Md} {H : List Hour} {P : List Int} {v w p : AVal} (hv : LV 4 Md.enc R v) (hw : LV 3 Hour.enc H w) (hp : IntV P p) (σ : Store) : Run X (.call 3) [plV lo hi v, tkV t w, p] σ = some (.ret, [.bool true], σ) := by
  have f1 := hv.free Md.fr
  have f2 := hw.free Hour.fr
  have f6 := hp.free
  have f3 := plV_fr (lo := lo) (hi := hi) f1
  have f4 := tkV_fr (t := t) f2
  refine call3 (a := plV lo hi v) (b := tkV t w) (c := p) (v := .bool true) hX.h3 (by rw [f3.2]; exact f3.1) (by rw [f4.2]; exact f4.1) (by rw [f6.2]; exact f6.1) (by decide) (fun tm hl h0 h1 h2 => ?_) rfl σ
  rw [f3.2] at h0
  rw [f4.2] at h1
  rw [f6.2] at h2
  unfold plV at h0
  unfold tkV at h1
  replace hl : tm.length = 172 := hl
  have u13 := w13 hX.dxB lo hi hv
  have u14 := w14 hX.dxB t hw
  obtain ⟨k1, k2⟩ := hp.len
  unfold plV at u13
  unfold tkV at u14
  unfold Gives
  cases c1 : fewB R
  · simp [xf3, hl, h0, h1, h2, hA, u13, f1, f2, f6, c1, xload, AVal.cells, AVal.one, Store.empty, Store.new, Store.put, Store.get, look, putL, setR, Store.only, Store.merge, touch, wrote, upTo, isIn, okRec, hits, capsOf, xcaps, stripL, AVal.strip, freeL, AVal.free, fillR, chunks, mkV, List.filter]
  by_cases c2 : H.length ≤ 12
  · by_cases c3 : P.length ≤ 12
    · have c3' : ¬ (12 : Int) < P.length := by omega
      obtain ⟨r1, r2⟩ := fewB_of c1
      have fm := fr_map Md.fr R
      have fh := fr_map Hour.fr H
      have fms := freeL_strip fm
      have fhs := freeL_strip fh
      have fi := ints_fr P
      have fis := freeL_strip fi
      have hv' : LV 4 Md.enc R (.list 4 (R.map Md.enc) none) := .inl rfl
      have hw' : LV 3 Hour.enc H (.list 3 (H.map Hour.enc) none) := .inl rfl
      have hp' : IntV P (.list 1 (ints P) none) := .inl rfl
      have hL : LIn R H P v w p := ⟨hv, hw, hp, r1, r2, c2, c3⟩
      have hL' : LIn R H P (.list 4 (R.map Md.enc) none) (.list 3 (H.map Hour.enc) none) (.list 1 (ints P) none) := ⟨hv', hw', hp', r1, r2, c2, c3⟩
      have u16 := w16 hX.dxB lo hi hv (by omega)
      have u18 := w18 hX.dxB t hw (by omega)
      have u20 := w20 hX.dxB.dxA hp (by omega)
      have u15 := w15 hX.dxB lo hi hv' (by omega) r2
      have u17 := w17 hX.dxB lo hi hv' (by omega) r2 t hw' (by omega)
      have u23 := w23 hX.dxB lo hi hv (by omega) r2
      have u24 := w24 hX.dxB lo hi hv (by omega) r2 t hw (by omega)
      unfold plV at u15 u16 u17 u23 u24
      unfold tkV at u17 u18 u24
      by_cases c4 : (tkC lo hi R t H).2 = 0
      · have ht := tin_of c4
        have u25 := w25 hX lo hi t hL ht
        unfold plV tkV at u25
        have et : teE lo hi R t H P = pE lo hi R t H P := by unfold teE; rw [if_pos c4]
        by_cases c5 : pE lo hi R t H P = 0
        · have e0 : teE lo hi R t H P = 0 := by rw [et, c5]
          obtain ⟨_, hP⟩ := teE_in e0
          obtain ⟨q, hq, u19⟩ := w19 hX lo hi t hL' e0
          obtain ⟨q', hq', u27⟩ := w27 hX hv hw (lo := lo) (hi := hi) hp ht hP
          have u26 := w26 hX.dxB.dxA hq hq' (by rw [vL_len]; omega)
          have u21 := w21 hX lo hi t hL' e0
          have u22 := w22 hX lo hi t hL' e0
          have u28 := w28 hX hv hw (lo := lo) (hi := hi) hp ht hP
          have u29 := w29 hX (t := t) f2 hp (by omega)
          have f7 := hq.free
          have f8 := hq'.free
          unfold plV at u19 u21 u22 u27 u28
          unfold tkV at u19 u21 u22 u27 u28 u29
          rw [c4] at u17 u24
          rw [c5] at u25
          simp [xf3, hl, h0, h1, h2, hA, u13, u14, u15, u16, u17, u18, u19, u20, u21, u22, u23, u24, u25, u26, u27, u28, u29, f1, f2, f6, f7, f8, fm, fh, fms, fhs, fi, fis, k1, k2, c1, c2, c3', xload, AVal.cells, AVal.one, Store.empty, Store.new, Store.put, Store.get, look, putL, setR, Store.only, Store.merge, touch, wrote, upTo, isIn, okRec, hits, capsOf, xcaps, stripL, AVal.strip, freeL, AVal.free, fillR, chunks, mkV, List.filter]
        · have e0 : teE lo hi R t H P ≠ 0 := by rw [et]; exact c5
          have u19 := w19bad hX lo hi t hL' e0
          have u21 := w21bad hX lo hi t hL' e0
          have u22 := w22bad hX lo hi t hL' e0
          rw [et] at u19 u21 u22
          unfold plV tkV at u19 u21 u22
          rw [c4] at u17 u24
          simp [xf3, hl, h0, h1, h2, hA, u13, u14, u15, u16, u17, u18, u19, u20, u21, u22, u23, u24, u25, f1, f2, f6, fm, fh, fms, fhs, fi, fis, k1, k2, c1, c2, c3', c5, xload, AVal.cells, AVal.one, Store.empty, Store.new, Store.put, Store.get, look, putL, setR, Store.only, Store.merge, touch, wrote, upTo, isIn, okRec, hits, capsOf, xcaps, stripL, AVal.strip, freeL, AVal.free, fillR, chunks, mkV, List.filter]
      · have et : teE lo hi R t H P = (tkC lo hi R t H).2 := by unfold teE; rw [if_neg c4]
        have e0 : teE lo hi R t H P ≠ 0 := by rw [et]; exact c4
        have u19 := w19bad hX lo hi t hL' e0
        have u21 := w21bad hX lo hi t hL' e0
        have u22 := w22bad hX lo hi t hL' e0
        rw [et] at u19 u21 u22
        unfold plV tkV at u19 u21 u22
        simp [xf3, hl, h0, h1, h2, hA, u13, u14, u15, u16, u17, u18, u19, u20, u21, u22, u23, u24, f1, f2, f6, fm, fh, fms, fhs, fi, fis, k1, k2, c1, c2, c3', c4, xload, AVal.cells, AVal.one, Store.empty, Store.new, Store.put, Store.get, look, putL, setR, Store.only, Store.merge, touch, wrote, upTo, isIn, okRec, hits, capsOf, xcaps, stripL, AVal.strip, freeL, AVal.free, fillR, chunks, mkV, List.filter]
    · have c3' : (12 : Int) < P.length := by omega
      simp [xf3, hl, h0, h1, h2, hA, u13, u14, f1, f2, f6, k1, k2, c1, c2, c3', xload, AVal.cells, AVal.one, Store.empty, Store.new, Store.put, Store.get, look, putL, setR, Store.only, Store.merge, touch, wrote, upTo, isIn, okRec, hits, capsOf, xcaps, stripL, AVal.strip, freeL, AVal.free, fillR, chunks, mkV, List.filter]
  · simp [xf3, hl, h0, h1, h2, hA, u13, u14, f1, f2, f6, c1, c2, xload, AVal.cells, AVal.one, Store.empty, Store.new, Store.put, Store.get, look, putL, setR, Store.only, Store.merge, touch, wrote, upTo, isIn, okRec, hits, capsOf, xcaps, stripL, AVal.strip, freeL, AVal.free, fillR, chunks, mkV, List.filter]
end
end Go.Proofs.Ytgijgcmcpgepaaa.Eng
