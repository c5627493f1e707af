/-
  DISPATCH: plans that are checked.
-/
import Derived.Test.YtgijgcmcpgepaaaDxRun1
import Derived.Test.YtgijgcmcpgepaaaCode1
namespace Go.Proofs.Ytgijgcmcpgepaaa.Eng
set_option linter.unusedSimpArgs false
set_option linter.unusedVariables false
def misE (n : Nat) (P : List Int) : Int := (fiE (fun a => ixE a n) P 0).2
def brE (lo hi x : Int) : Int := if win x lo hi then 0 else 22
def pE (lo hi : Int) (R : List Md) (t : Tk) (H : List Hour) (P : List Int) : Int := if P.length = H.length then (if misE R.length P = 0 then (fiE (brE lo hi) (vL R t H P P.length) 0).2 else misE R.length P) else 10
theorem pin_of {R : List Md} {H : List Hour} {P : List Int} (h1 : P.length = H.length) (h2 : misE R.length P = 0) : PIn R H P := by
  refine ⟨h1, fun i hi => ?_⟩
  have e : P.getD i 0 = P[i] := by simp [hi]
  rw [e]
  have := fiE_all h2 P[i] (List.getElem_mem hi)
  unfold ixE at this
  split at this
  · assumption
  · omega
def ptCells (lo hi : Int) (v : AVal) (t : Tk) (w : AVal) : List AVal := [.int .i64 lo, .int .i64 hi, v, .int .i64 t.vol, .int .i64 t.mode, .int .i64 t.worth, w]
theorem cells_agg (cs : List AVal) : (AVal.agg cs).cells = cs := rfl
theorem cells_int (k : IntKind) (n : Int) : (AVal.int k n).cells = [.int k n] := rfl
theorem IntV.cells {L : List Int} {v : AVal} (h : IntV L v) : v.cells = [v] := by rcases h with rfl | ⟨rfl, _⟩ <;> rfl
theorem IntV.one {L : List Int} {v : AVal} (h : IntV L v) : v.one = true := by rcases h with rfl | ⟨rfl, _⟩ <;> rfl
section
variable {X : FuncId → Option XFunc} (hX : DxCCode X)
include hX
theorem w140 (lo hi : Int) {R : List Md} {v : AVal} (hv : LV 4 Md.enc R v) (t : Tk) {H : List Hour} {w : AVal} (hw : LV 3 Hour.enc H w) (a : Int) (σ : Store) : Run X (.call 140) [.int .i64 a, .iptr (ptCells lo hi v t w) 0] σ = some (.ret, [.int .i64 (ixE a R.length)], σ) := by
  have f1 := hv.free Md.fr
  have f2 := hw.free Hour.fr
  have fs : (AVal.iptr (ptCells lo hi v t w) 0).strip = .iptr (ptCells lo hi v t w) 0 ∧ (AVal.iptr (ptCells lo hi v t w) 0).free = true := by simp [ptCells, AVal.strip, stripL, AVal.free, freeL, f1, f2]
  refine call2 (a := .int .i64 a) (b := .iptr (ptCells lo hi v t w) 0) (v := .int .i64 (ixE a R.length)) hX.h140 rfl (by rw [fs.1]; exact fs.2) (by decide) (fun tm hl h0 h1 => ?_) rfl σ
  simp only [AVal.strip] at h0
  rw [fs.1] at h1
  replace hl : tm.length = 11 := hl
  have u := w77 hX.dxB a R.length
  obtain ⟨k1, k2⟩ := hv.len
  unfold ptCells at h1
  unfold Gives
  simp [xf140, hl, h0, h1, u, k1, k2, xload, AVal.cells]
theorem w141 (lo hi : Int) {R : List Md} {v : AVal} (hv : LV 4 Md.enc R v) (t : Tk) {H : List Hour} {w : AVal} (hw : LV 3 Hour.enc H w) (a : Int) (σ : Store) : Run X (.call 141) [.int .i64 a, .iptr (ptCells lo hi v t w) 0] σ = some (.ret, [.int .i64 (brE lo hi a)], σ) := by
  have f1 := hv.free Md.fr
  have f2 := hw.free Hour.fr
  have fs : (AVal.iptr (ptCells lo hi v t w) 0).strip = .iptr (ptCells lo hi v t w) 0 ∧ (AVal.iptr (ptCells lo hi v t w) 0).free = true := by simp [ptCells, AVal.strip, stripL, AVal.free, freeL, f1, f2]
  refine call2 (a := .int .i64 a) (b := .iptr (ptCells lo hi v t w) 0) (v := .int .i64 (brE lo hi a)) hX.h141 rfl (by rw [fs.1]; exact fs.2) (by decide) (fun tm hl h0 h1 => ?_) rfl σ
  simp only [AVal.strip] at h0
  rw [fs.1] at h1
  replace hl : tm.length = 9 := hl
  have u := w130 hX lo hi hv a
  have u2 := w71 hX.dxB.dxA
  unfold plV at u
  unfold ptCells at h1
  unfold Gives brE
  simp [xf141, hl, h0, h1, u, u2, f1, xload, AVal.cells]
omit hX in
theorem loop139 {F : FuncId} {caps : List AVal} {f : Int → Int} (hF : ∀ a σ, Run X (.call F) (.int .i64 a :: caps) σ = some (.ret, [.int .i64 (f a)], σ)) (L : List Int) {v : AVal} (hv : IntV L v) (hn : L.length ≤ 1000000000) : ∀ (k i : Nat), i + k = L.length → ∀ (tm : List AVal) (σ : Store), tm.length = 24 → XOpd.eval tm (.t 1) = .fn F [] caps → XOpd.eval tm (.t 9) = v → XOpd.eval tm (.t 10) = .int .i64 L.length → XOpd.eval tm (.t 11) = .int .i64 i →
    Ends (Run X (.code (.loop xf139l0)) tm σ) (if (fiE f (L.drop i) i).2 = 0 then .exit 0 else .ret) fun tm' _ => tm'.length = 24 ∧ ((fiE f (L.drop i) i).2 ≠ 0 → XOpd.eval tm' (.t 4) = .int .i64 (fiE f (L.drop i) i).1 ∧ XOpd.eval tm' (.t 5) = .int .i64 (fiE f (L.drop i) i).2)
  | 0, i, hk, tm, σ, hl, h1, h9, h10, h11 => by
    have hi : i = L.length := by omega
    subst hi
    rw [Run_loop]
    simp [xf139l0, hl, h1, h10, h11, fiE]
  | k + 1, i, hk, tm, σ, hl, h1, h9, h10, h11 => by
    have hi : i < L.length := by omega
    have hd : L.drop i = L[i] :: L.drop (i + 1) := List.drop_eq_getElem_cons hi
    have hw : IntKind.i64.wrap ((i : Int) + 1) = ((i + 1 : Nat) : Int) := by rw [wrap_i64] <;> omega
    have h9' : XOpd.eval tm (.t 9) = .list 1 (ints L) none := by rw [h9]; exact hv.ne (by intro e; simp [e] at hi)
    have u := hF L[i]
    rw [Run_loop, hd]
    by_cases he : f L[i] = 0
    · have ih := loop139 hF L hv hn k (i + 1) (by omega)
      rw [he] at u
      simp only [fiE, he, if_true]
      simp [xf139l0, hl, h1, h9', h10, h11, hi, hw, u, ints, xload, AVal.cells]
      exact ih _ _ (by simp [hl]) (by simp [hl, h1]) (by simp [hl, h9]) (by simp [hl, h10]) (by simp [hl])
    · simp only [fiE, he, if_false]
      simp [xf139l0, hl, h1, h9', h10, h11, hi, he, u, ints, xload, AVal.cells]
theorem w139 {F : FuncId} {caps : List AVal} {f : Int → Int} (hF : ∀ a σ, Run X (.call F) (.int .i64 a :: caps) σ = some (.ret, [.int .i64 (f a)], σ)) (hc : freeL caps = true) {L : List Int} {v : AVal} (hv : IntV L v) (hn : L.length ≤ 1000000000) (σ : Store) : Run X (.call 139) [v, .fn F [] caps] σ = some (.ret, [.tup [.int .i64 (fiE f L 0).1, .int .i64 (fiE f L 0).2]], σ) := by
  have f1 := hv.free
  have fs := freeL_strip hc
  refine call2 (a := v) (b := .fn F [] caps) (v := .tup [.int .i64 (fiE f L 0).1, .int .i64 (fiE f L 0).2]) hX.h139 (by rw [f1.2]; exact f1.1) (by simp [AVal.strip, stripL, AVal.free, freeL, fs, hc]) (by decide) (fun tm hl h0 h1 => ?_) rfl σ
  rw [f1.2] at h0
  simp only [AVal.strip, stripL, fs] at h1
  replace hl : tm.length = 24 := hl
  obtain ⟨hln, hdn⟩ := hv.len
  have hL := fun tm σ h1 h2 h3 h4 h5 => out_of (loop139 hF L hv hn L.length 0 (by omega) tm σ h1 h2 h3 h4 h5)
  simp only [List.drop_zero] at hL
  unfold Gives
  by_cases he : (fiE f L 0).2 = 0
  · have e1 : (fiE f L 0).1 = 0 := fiE_zero he
    simp only [he, if_true] at hL
    simp (maxDischargeDepth := 9) [xf139, hl, h0, h1, hL, he, e1, hln, hdn, xresult, xrets, xret_t]
  · simp only [he, if_false] at hL
    simp (maxDischargeDepth := 9) [xf139, hl, h0, h1, hL, he, hln, hdn, xresult, xrets, xret_t]
set_option maxHeartbeats 8000000 in
theorem w121 {lo hi : Int} {R : List Md} {v : AVal} (hv : LV 4 Md.enc R v) {t : Tk} {H : List Hour} {w : AVal} (hw : LV 3 Hour.enc H w) {P : List Int} {p : AVal} (hp : IntV P p) (hn : P.length ≤ 1000) (ht : TIn lo hi R t H) (σ : Store) : Run X (.call 121) [ptV lo hi v t w, p] σ = some (.ret, [.int .i64 (pE lo hi R t H P)], σ) := by
  have f1 := hv.free Md.fr
  have f2 := hw.free Hour.fr
  have f6 := hp.free
  have f5 := ptV_fr (lo := lo) (hi := hi) (t := t) f1 f2
  refine call2 (a := ptV lo hi v t w) (b := p) (v := .int .i64 (pE lo hi R t H P)) hX.h121 (by rw [f5.2]; exact f5.1) (by rw [f6.2]; exact f6.1) (by decide) (fun tm hl h0 h1 => ?_) rfl σ
  rw [f5.2] at h0
  rw [f6.2] at h1
  unfold ptV at h0
  replace hl : tm.length = 40 := hl
  have hc : freeL [AVal.iptr (ptCells lo hi v t w) 0] = true := by simp [ptCells, AVal.free, freeL, f1, f2]
  have u1 := w139 hX (w140 hX lo hi hv t hw) hc hp (by omega)
  have u2 := w71 hX.dxB.dxA
  have u3 := first2 hX.dxB.dxA
  obtain ⟨k1, k2⟩ := hp.len
  obtain ⟨k3, k4⟩ := hw.len
  have pc := hp.cells
  unfold Gives pE misE
  unfold ptCells at u1
  by_cases c1 : P.length = H.length
  · have c1' : (P.length : Int) = H.length := by omega
    by_cases c2 : (fiE (fun a => ixE a R.length) P 0).2 = 0
    · have hP : PIn R H P := pin_of c1 c2
      obtain ⟨q, hq, u4⟩ := w81 hX hv hw (lo := lo) (hi := hi) hp ht hP
      have u5 := w139 hX (w141 hX lo hi hv t hw) hc hq (by rw [vL_len]; omega)
      have f7 := hq.free
      unfold ptCells at u5
      unfold plnV at u4
      rw [if_pos c1, if_pos c2]
      simp [xf121, hl, h0, h1, u1, u2, u3, u4, u5, f1, f2, f6, f7, k1, k2, k3, k4, c1, c1', c2, pc, cells_agg, cells_int, firstNZ, fillR, xcaps, xload, Store.empty, Store.new, Store.put, Store.get, look, putL, setR, Store.only, Store.merge, touch, wrote, upTo, isIn, okRec, hits, capsOf, xcaps, stripL, AVal.strip, freeL, AVal.free, fillR, chunks, mkV, List.filter, -AVal.cells]
    · rw [if_pos c1, if_neg c2]
      simp [xf121, hl, h0, h1, u1, u2, u3, f1, f2, f6, k1, k2, k3, k4, c1, c1', c2, firstNZ, fillR, xcaps, xload, AVal.cells, Store.empty, Store.new, Store.put, Store.get, look, putL, setR, Store.only, Store.merge, touch, wrote, upTo, isIn, okRec, hits, capsOf, xcaps, stripL, AVal.strip, freeL, AVal.free, fillR, chunks, mkV, List.filter]
  · have c1' : ¬ (P.length : Int) = H.length := by omega
    rw [if_neg c1]
    simp [xf121, hl, h0, h1, u1, u2, u3, f1, f2, f6, k1, k2, k3, k4, c1, c1', firstNZ, fillR, xcaps, xload, AVal.cells, Store.empty, Store.new, Store.put, Store.get, look, putL, setR, Store.only, Store.merge, touch, wrote, upTo, isIn, okRec, hits, capsOf, xcaps, stripL, AVal.strip, freeL, AVal.free, fillR, chunks, mkV, List.filter]
end
end Go.Proofs.Ytgijgcmcpgepaaa.Eng

/-
  DISPATCH: plans, whole.
-/
namespace Go.Proofs.Ytgijgcmcpgepaaa.Eng
set_option linter.unusedSimpArgs false
set_option linter.unusedVariables false
def teE (lo hi : Int) (R : List Md) (t : Tk) (H : List Hour) (P : List Int) : Int := if (tkC lo hi R t H).2 = 0 then pE lo hi R t H P else (tkC lo hi R t H).2
def pln0 : AVal := .agg [.int .i64 0, .int .i64 0, .nils, .int .i64 0, .int .i64 0, .int .i64 0, .nils, .nils]
theorem teE_in {lo hi : Int} {R : List Md} {t : Tk} {H : List Hour} {P : List Int} (h : teE lo hi R t H P = 0) : TIn lo hi R t H ∧ PIn R H P := by
  unfold teE at h
  by_cases c : (tkC lo hi R t H).2 = 0
  · rw [if_pos c] at h
    refine ⟨tin_of c, ?_⟩
    unfold pE at h
    by_cases c1 : P.length = H.length
    · rw [if_pos c1] at h
      by_cases c2 : misE R.length P = 0
      · exact pin_of c1 c2
      · rw [if_neg c2] at h; exact absurd h c2
    · rw [if_neg c1] at h; omega
  · rw [if_neg c] at h; exact absurd h c
/-- What the law is given. -/
structure LIn (R : List Md) (H : List Hour) (P : List Int) (v w p : AVal) : Prop where
  v : LV 4 Md.enc R v
  w : LV 3 Hour.enc H w
  p : IntV P p
  rn : R.length ≤ 7
  rs : ∀ s, s ∈ R → s.nm.size ≤ 1000
  hn : H.length ≤ 12
  pn : P.length ≤ 12
section
variable {X : FuncId → Option XFunc} (hX : DxCCode X)
include hX
set_option maxHeartbeats 8000000 in
theorem w80 (lo hi : Int) (t : Tk) {R : List Md} {H : List Hour} {P : List Int} {v w p : AVal} (h : LIn R H P v w p) (σ : Store) : Run X (.call 80) [plV lo hi v, tkV t w, p] σ = some (.ret, [.tup [if teE lo hi R t H P = 0 then plnV lo hi v t w p else pln0, .int .i64 (teE lo hi R t H P)]], σ) := by
  have f1 := h.v.free Md.fr
  have f2 := h.w.free Hour.fr
  have f6 := h.p.free
  have f3 := plV_fr (lo := lo) (hi := hi) f1
  have f4 := tkV_fr (t := t) f2
  have f5 := plnV_fr (lo := lo) (hi := hi) (t := t) f1 f2 f6
  have rn := h.rn
  have hn := h.hn
  have pn := h.pn
  have u := w89 hX.dxB lo hi h.v (by omega) h.rs t h.w (by omega)
  have g1 := h.v.one
  have g2 := h.w.one
  have g3 := h.p.one
  have pc := h.p.cells
  have key : Run X (.call 80) [plV lo hi v, tkV t w, p] σ = some (.ret, [(AVal.tup [if teE lo hi R t H P = 0 then plnV lo hi v t w p else pln0, .int .i64 (teE lo hi R t H P)]).strip], σ) := by
    refine call3 (a := plV lo hi v) (b := tkV t w) (c := p) (v := .tup [if teE lo hi R t H P = 0 then plnV lo hi v t w p else pln0, .int .i64 (teE lo hi R t H P)]) hX.h80 (by rw [f3.2]; exact f3.1) (by rw [f4.2]; exact f4.1) (by rw [f6.2]; exact f6.1) (by decide) (fun tm hl h0 h1 h2 => ?_) (by split <;> simp [AVal.strip, stripL, AVal.free, freeL, f5, pln0]) σ
    rw [f3.2] at h0
    rw [f4.2] at h1
    rw [f6.2] at h2
    unfold plV at h0 u
    unfold tkV at h1 u
    replace hl : tm.length = 28 := hl
    unfold Gives teE
    by_cases c : (tkC lo hi R t H).2 = 0
    · have u2 := w121 hX h.v h.w (lo := lo) (hi := hi) (t := t) h.p (by omega) (tin_of c)
      rw [if_pos c] at u
      rw [c] at u
      unfold ptV at u u2
      rw [if_pos c]
      unfold plnV pln0
      by_cases c2 : pE lo hi R t H P = 0 <;> simp [xf80, hl, h0, h1, h2, u, u2, f1, f2, f6, g1, g2, g3, pc, c, c2, cells_agg, cells_int, fillR, xload, xresult, xrets, xret_t, xret_cn, Store.empty, Store.new, Store.put, Store.get, look, putL, setR, Store.only, Store.merge, touch, wrote, upTo, isIn, okRec, hits, capsOf, xcaps, stripL, AVal.strip, freeL, AVal.free, fillR, chunks, mkV, List.filter, -AVal.cells]
    · rw [if_neg c] at u
      unfold pt0 at u
      rw [if_neg c]
      unfold plnV pln0
      simp [xf80, hl, h0, h1, h2, u, f1, f2, f6, c, cells_agg, cells_int, fillR, xload, xresult, xrets, xret_t, xret_cn, Store.empty, Store.new, Store.put, Store.get, look, putL, setR, Store.only, Store.merge, touch, wrote, upTo, isIn, okRec, hits, capsOf, xcaps, stripL, AVal.strip, freeL, AVal.free, fillR, chunks, mkV, List.filter, -AVal.cells]
  rw [key]
  split <;> simp [AVal.strip, stripL, f5, pln0]
set_option maxHeartbeats 8000000 in
theorem w19bad (lo hi : Int) (t : Tk) {R : List Md} {H : List Hour} {P : List Int} {v w p : AVal} (h : LIn R H P v w p) (he : teE lo hi R t H P ≠ 0) (σ : Store) : Run X (.call 19) [plV lo hi v, tkV t w, p] σ = some (.ret, [.tup [.nils, .int .i64 (teE lo hi R t H P)]], σ) := by
  have f1 := h.v.free Md.fr
  have f2 := h.w.free Hour.fr
  have f6 := h.p.free
  have f3 := plV_fr (lo := lo) (hi := hi) f1
  have f4 := tkV_fr (t := t) f2
  have u := w80 hX lo hi t h
  rw [if_neg he] at u
  refine call3 (a := plV lo hi v) (b := tkV t w) (c := p) (v := .tup [.nils, .int .i64 (teE lo hi R t H P)]) hX.h19 (by rw [f3.2]; exact f3.1) (by rw [f4.2]; exact f4.1) (by rw [f6.2]; exact f6.1) (by decide) (fun tm hl h0 h1 h2 => ?_) rfl σ
  rw [f3.2] at h0
  rw [f4.2] at h1
  rw [f6.2] at h2
  unfold plV at h0 u
  unfold tkV at h1 u
  unfold pln0 at u
  replace hl : tm.length = 22 := hl
  unfold Gives
  simp [xf19, hl, h0, h1, h2, u, f1, f2, f6, he, cells_agg, cells_int, fillR, xload, xresult, xrets, xret_t, Store.empty, Store.new, Store.put, Store.get, look, putL, setR, Store.only, Store.merge, touch, wrote, upTo, isIn, okRec, hits, capsOf, xcaps, stripL, AVal.strip, freeL, AVal.free, fillR, chunks, mkV, List.filter, -AVal.cells]
set_option maxHeartbeats 8000000 in
theorem w21bad (lo hi : Int) (t : Tk) {R : List Md} {H : List Hour} {P : List Int} {v w p : AVal} (h : LIn R H P v w p) (he : teE lo hi R t H P ≠ 0) (σ : Store) : Run X (.call 21) [plV lo hi v, tkV t w, p] σ = some (.ret, [.tup [.int .i64 0, .int .i64 (teE lo hi R t H P)]], σ) := by
  have f1 := h.v.free Md.fr
  have f2 := h.w.free Hour.fr
  have f6 := h.p.free
  have f3 := plV_fr (lo := lo) (hi := hi) f1
  have f4 := tkV_fr (t := t) f2
  have u := w80 hX lo hi t h
  rw [if_neg he] at u
  refine call3 (a := plV lo hi v) (b := tkV t w) (c := p) (v := .tup [.int .i64 0, .int .i64 (teE lo hi R t H P)]) hX.h21 (by rw [f3.2]; exact f3.1) (by rw [f4.2]; exact f4.1) (by rw [f6.2]; exact f6.1) (by decide) (fun tm hl h0 h1 h2 => ?_) rfl σ
  rw [f3.2] at h0
  rw [f4.2] at h1
  rw [f6.2] at h2
  unfold plV at h0 u
  unfold tkV at h1 u
  unfold pln0 at u
  replace hl : tm.length = 22 := hl
  unfold Gives
  simp [xf21, hl, h0, h1, h2, u, f1, f2, f6, he, cells_agg, cells_int, fillR, xload, xresult, xrets, xret_t, Store.empty, Store.new, Store.put, Store.get, look, putL, setR, Store.only, Store.merge, touch, wrote, upTo, isIn, okRec, hits, capsOf, xcaps, stripL, AVal.strip, freeL, AVal.free, fillR, chunks, mkV, List.filter, -AVal.cells]
set_option maxHeartbeats 8000000 in
theorem w22bad (lo hi : Int) (t : Tk) {R : List Md} {H : List Hour} {P : List Int} {v w p : AVal} (h : LIn R H P v w p) (he : teE lo hi R t H P ≠ 0) (σ : Store) : Run X (.call 22) [plV lo hi v, tkV t w, p] σ = some (.ret, [.tup [.int .i64 0, .int .i64 (teE lo hi R t H P)]], σ) := by
  have f1 := h.v.free Md.fr
  have f2 := h.w.free Hour.fr
  have f6 := h.p.free
  have f3 := plV_fr (lo := lo) (hi := hi) f1
  have f4 := tkV_fr (t := t) f2
  have u := w80 hX lo hi t h
  rw [if_neg he] at u
  refine call3 (a := plV lo hi v) (b := tkV t w) (c := p) (v := .tup [.int .i64 0, .int .i64 (teE lo hi R t H P)]) hX.h22 (by rw [f3.2]; exact f3.1) (by rw [f4.2]; exact f4.1) (by rw [f6.2]; exact f6.1) (by decide) (fun tm hl h0 h1 h2 => ?_) rfl σ
  rw [f3.2] at h0
  rw [f4.2] at h1
  rw [f6.2] at h2
  unfold plV at h0 u
  unfold tkV at h1 u
  unfold pln0 at u
  replace hl : tm.length = 22 := hl
  unfold Gives
  simp [xf22, hl, h0, h1, h2, u, f1, f2, f6, he, cells_agg, cells_int, fillR, xload, xresult, xrets, xret_t, Store.empty, Store.new, Store.put, Store.get, look, putL, setR, Store.only, Store.merge, touch, wrote, upTo, isIn, okRec, hits, capsOf, xcaps, stripL, AVal.strip, freeL, AVal.free, fillR, chunks, mkV, List.filter, -AVal.cells]
set_option maxHeartbeats 8000000 in
theorem w19 (lo hi : Int) (t : Tk) {R : List Md} {H : List Hour} {P : List Int} {v w p : AVal} (h : LIn R H P v w p) (he : teE lo hi R t H P = 0) : ∃ q, IntV (vL R t H P P.length) q ∧ ∀ σ, Run X (.call 19) [plV lo hi v, tkV t w, p] σ = some (.ret, [.tup [q, .int .i64 0]], σ) := by
  have f1 := h.v.free Md.fr
  have f2 := h.w.free Hour.fr
  have f6 := h.p.free
  have f3 := plV_fr (lo := lo) (hi := hi) f1
  have f4 := tkV_fr (t := t) f2
  have u := w80 hX lo hi t h
  rw [if_pos he, he] at u
  obtain ⟨ht, hP⟩ := teE_in he
  obtain ⟨q, hq, u2⟩ := w81 hX h.v h.w (lo := lo) (hi := hi) h.p ht hP
  have f7 := hq.free
  have g1 := h.v.one
  have g2 := h.w.one
  have g3 := h.p.one
  refine ⟨q, hq, fun σ => ?_⟩
  have key : Run X (.call 19) [plV lo hi v, tkV t w, p] σ = some (.ret, [(AVal.tup [q, .int .i64 0]).strip], σ) := by
    refine call3 (a := plV lo hi v) (b := tkV t w) (c := p) (v := .tup [q, .int .i64 0]) hX.h19 (by rw [f3.2]; exact f3.1) (by rw [f4.2]; exact f4.1) (by rw [f6.2]; exact f6.1) (by decide) (fun tm hl h0 h1 h2 => ?_) (by simp [AVal.strip, stripL, AVal.free, freeL, f7]) σ
    rw [f3.2] at h0
    rw [f4.2] at h1
    rw [f6.2] at h2
    unfold plV at h0 u
    unfold tkV at h1 u
    unfold plnV at u u2
    replace hl : tm.length = 22 := hl
    unfold Gives
    simp [xf19, hl, h0, h1, h2, u, u2, f1, f2, f6, f7, g1, g2, g3, cells_agg, cells_int, fillR, xload, xresult, xrets, xret_t, Store.empty, Store.new, Store.put, Store.get, look, putL, setR, Store.only, Store.merge, touch, wrote, upTo, isIn, okRec, hits, capsOf, xcaps, stripL, AVal.strip, freeL, AVal.free, fillR, chunks, mkV, List.filter, -AVal.cells]
  simpa [AVal.strip, stripL, f7] using key
set_option maxHeartbeats 8000000 in
theorem w21 (lo hi : Int) (t : Tk) {R : List Md} {H : List Hour} {P : List Int} {v w p : AVal} (h : LIn R H P v w p) (he : teE lo hi R t H P = 0) (σ : Store) : Run X (.call 21) [plV lo hi v, tkV t w, p] σ = some (.ret, [.tup [.int .i64 (valS R t H P), .int .i64 0]], σ) := by
  have f1 := h.v.free Md.fr
  have f2 := h.w.free Hour.fr
  have f6 := h.p.free
  have f3 := plV_fr (lo := lo) (hi := hi) f1
  have f4 := tkV_fr (t := t) f2
  have u := w80 hX lo hi t h
  rw [if_pos he, he] at u
  obtain ⟨ht, hP⟩ := teE_in he
  have pn := h.pn
  have u2 := w82 hX h.v h.w (lo := lo) (hi := hi) h.p ht hP
  have g1 := h.v.one
  have g2 := h.w.one
  have g3 := h.p.one
  refine call3 (a := plV lo hi v) (b := tkV t w) (c := p) (v := .tup [.int .i64 (valS R t H P), .int .i64 0]) hX.h21 (by rw [f3.2]; exact f3.1) (by rw [f4.2]; exact f4.1) (by rw [f6.2]; exact f6.1) (by decide) (fun tm hl h0 h1 h2 => ?_) rfl σ
  rw [f3.2] at h0
  rw [f4.2] at h1
  rw [f6.2] at h2
  unfold plV at h0 u
  unfold tkV at h1 u
  unfold plnV at u u2
  replace hl : tm.length = 22 := hl
  unfold Gives
  simp [xf21, hl, h0, h1, h2, u, u2, f1, f2, f6, g1, g2, g3, cells_agg, cells_int, fillR, xload, xresult, xrets, xret_t, Store.empty, Store.new, Store.put, Store.get, look, putL, setR, Store.only, Store.merge, touch, wrote, upTo, isIn, okRec, hits, capsOf, xcaps, stripL, AVal.strip, freeL, AVal.free, fillR, chunks, mkV, List.filter, -AVal.cells]
set_option maxHeartbeats 8000000 in
theorem w22 (lo hi : Int) (t : Tk) {R : List Md} {H : List Hour} {P : List Int} {v w p : AVal} (h : LIn R H P v w p) (he : teE lo hi R t H P = 0) (σ : Store) : Run X (.call 22) [plV lo hi v, tkV t w, p] σ = some (.ret, [.tup [.int .i64 (sS t P P.length), .int .i64 0]], σ) := by
  have f1 := h.v.free Md.fr
  have f2 := h.w.free Hour.fr
  have f6 := h.p.free
  have f3 := plV_fr (lo := lo) (hi := hi) f1
  have f4 := tkV_fr (t := t) f2
  have u := w80 hX lo hi t h
  rw [if_pos he, he] at u
  obtain ⟨ht, hP⟩ := teE_in he
  have pn := h.pn
  have u2 := w83 hX (lo := lo) (hi := hi) f1 (t := t) f2 h.p (by omega)
  have g1 := h.v.one
  have g2 := h.w.one
  have g3 := h.p.one
  refine call3 (a := plV lo hi v) (b := tkV t w) (c := p) (v := .tup [.int .i64 (sS t P P.length), .int .i64 0]) hX.h22 (by rw [f3.2]; exact f3.1) (by rw [f4.2]; exact f4.1) (by rw [f6.2]; exact f6.1) (by decide) (fun tm hl h0 h1 h2 => ?_) rfl σ
  rw [f3.2] at h0
  rw [f4.2] at h1
  rw [f6.2] at h2
  unfold plV at h0 u
  unfold tkV at h1 u
  unfold plnV at u u2
  replace hl : tm.length = 22 := hl
  unfold Gives
  simp [xf22, hl, h0, h1, h2, u, u2, f1, f2, f6, g1, g2, g3, cells_agg, cells_int, fillR, xload, xresult, xrets, xret_t, Store.empty, Store.new, Store.put, Store.get, look, putL, setR, Store.only, Store.merge, touch, wrote, upTo, isIn, okRec, hits, capsOf, xcaps, stripL, AVal.strip, freeL, AVal.free, fillR, chunks, mkV, List.filter, -AVal.cells]
/-! The reference's. -/
omit hX in
theorem br_all (lo hi : Int) : ∀ (L : List Int) (i : Nat), (fiE (brE lo hi) L i).2 = if L.all (fun x => win x lo hi) then 0 else 22
  | [], _ => rfl
  | a :: L, i => by
    unfold fiE brE
    cases c : win a lo hi
    · simp [c]
    · have ih := br_all lo hi L (i + 1)
      unfold brE at ih
      simp [c, ih]
theorem loop87 (lo hi : Int) {v : AVal} (L : List Int) {q : AVal} (hq : IntV L q) (hn : L.length ≤ 1000000) : ∀ (k i : Nat), i + k = L.length → ∀ (tm : List AVal) (σ : Store), tm.length = 29 → XOpd.eval tm (.t 3) = .ptr 0 0 → XOpd.eval tm (.t 7) = q → XOpd.eval tm (.t 8) = .int .i64 i → σ.get 0 = some (.cells [.int .i64 lo, .int .i64 hi, v]) →
    Ends (Run X (.code (.loop xf87l0)) tm σ) (if (L.drop i).all (fun x => win x lo hi) then .exit 0 else .ret) fun tm' _ => tm'.length = 29 ∧ ((L.drop i).all (fun x => win x lo hi) = false → XOpd.eval tm' (.t 6) = .bool false)
  | 0, i, hk, tm, σ, hl, h3, h7, h8, g0 => by
    have hi' : i = L.length := by omega
    subst hi'
    obtain ⟨k1, k2⟩ := hq.len
    rw [Run_loop]
    simp [xf87l0, hl, h3, h7, h8, g0, k1, k2]
  | k + 1, i, hk, tm, σ, hl, h3, h7, h8, g0 => by
    have hi' : i < L.length := by omega
    have hii : (i : Int) < L.length := by omega
    have hd : L.drop i = L[i] :: L.drop (i + 1) := List.drop_eq_getElem_cons hi'
    have hw : IntKind.i64.wrap ((i : Int) + 1) = ((i + 1 : Nat) : Int) := by rw [wrap_i64] <;> omega
    have hqq : q = .list 1 (ints L) none := hq.ne (by intro e; simp [e] at hi')
    have gm : ∀ h, (ints L)[i]'h = .int .i64 L[i] := fun h => by simp [ints]
    have hlm := ints_len L
    have hi2 : i < (ints L).length := by rw [hlm]; exact hi'
    have u := w33 hX.dxB.dxA L[i] lo hi
    rw [Run_loop, hd]
    cases he : win L[i] lo hi with
    | true =>
      rw [he] at u
      have key : Ends (Run X (.code xf87l0) tm σ) .normal fun tm' σ' => tm'.length = 29 ∧ XOpd.eval tm' (.t 3) = .ptr 0 0 ∧ XOpd.eval tm' (.t 7) = q ∧ XOpd.eval tm' (.t 8) = .int .i64 ((i + 1 : Nat) : Int) ∧ σ'.get 0 = some (.cells [.int .i64 lo, .int .i64 hi, v]) := by
        rw [hqq] at h7 ⊢
        generalize ints L = A at *
        simp [xf87l0, hl, h3, h7, h8, g0, hi', hi2, hii, hlm, hw, gm, u, xload, xlen, AVal.cells, AVal.one, put_next, new_next, Store.get_new, Store.get_put, put_get, setR, only_get, merge_get', only_next, merge_next, upTo_self, upTo_one, merge_only, touch, wrote, isIn, okRec, hits, capsOf, xcaps, stripL, AVal.strip, freeL, AVal.free, fillR, chunks, mkV]
      obtain ⟨o1, p1, p2, p3, p4, p5⟩ := out_of key
      rw [o1, thenC_normal]
      have := loop87 lo hi L hq hn k (i + 1) (by omega) _ _ p1 p2 p3 p4 p5
      simpa only [List.all_cons, he, Bool.true_and] using this
    | false =>
      rw [he] at u
      simp only [List.all_cons, he, Bool.false_and, Bool.false_eq_true, if_false]
      rw [hqq] at h7
      generalize ints L = A at *
      simp [xf87l0, hl, h3, h7, h8, g0, hi', hi2, hii, hlm, gm, u, xload, xlen, AVal.cells, AVal.one, put_next, new_next, Store.get_new, Store.get_put, put_get, setR, only_get, merge_get', only_next, merge_next, upTo_self, upTo_one, merge_only, touch, wrote, isIn, okRec, hits, capsOf, xcaps, stripL, AVal.strip, freeL, AVal.free, fillR, chunks, mkV]
theorem w87 (lo hi : Int) (t : Tk) {R : List Md} {H : List Hour} {P : List Int} {v w p : AVal} (h : LIn R H P v w p) (ht : TIn lo hi R t H) (hP : PIn R H P) (σ : Store) : Run X (.call 87) [plV lo hi v, tkV t w, p] σ = some (.ret, [.bool ((vL R t H P P.length).all fun x => win x lo hi)], σ) := by
  have f1 := h.v.free Md.fr
  have f2 := h.w.free Hour.fr
  have f6 := h.p.free
  have f3 := plV_fr (lo := lo) (hi := hi) f1
  have f4 := tkV_fr (t := t) f2
  have pn := h.pn
  obtain ⟨q, hq, u⟩ := w27 hX h.v h.w (lo := lo) (hi := hi) h.p ht hP
  refine call3 (a := plV lo hi v) (b := tkV t w) (c := p) (v := .bool ((vL R t H P P.length).all fun x => win x lo hi)) hX.h87 (by rw [f3.2]; exact f3.1) (by rw [f4.2]; exact f4.1) (by rw [f6.2]; exact f6.1) (by decide) (fun tm hl h0 h1 h2 => ?_) rfl σ
  rw [f3.2] at h0
  rw [f4.2] at h1
  rw [f6.2] at h2
  unfold plV at h0 u
  unfold tkV at h1 u
  replace hl : tm.length = 29 := hl
  have eP : Ends (Run X (.code (XCode.cutP 2 xf87.body)) tm Store.empty) .normal fun tm' σ' => tm'.length = 29 ∧ XOpd.eval tm' (.t 3) = .ptr 0 0 ∧ XOpd.eval tm' (.t 7) = q ∧ XOpd.eval tm' (.t 8) = .int .i64 ((0 : Nat) : Int) ∧ σ'.get 0 = some (.cells [.int .i64 lo, .int .i64 hi, v]) := by
    simp [xf87, XCode.cutP, hl, h0, h1, h2, u, f1, f2, f6, xload, AVal.cells, AVal.one, Store.empty, Store.new, Store.put, Store.get, look, putL, setR, Store.only, Store.merge, touch, wrote, upTo, isIn, okRec, hits, capsOf, xcaps, stripL, AVal.strip, freeL, AVal.free, fillR, chunks, mkV, List.filter]
  obtain ⟨o1, p1, p2, p3, p4, p5⟩ := out_of eP
  obtain ⟨q1, q2, q3⟩ := out_of (loop87 hX lo hi (vL R t H P P.length) hq (by rw [vL_len]; omega) (vL R t H P P.length).length 0 (by omega) _ _ p1 p2 p3 p4 p5)
  simp only [List.drop_zero] at q1 q3
  unfold Gives
  rw [Run_cut 2, o1, thenC_normal, show XCode.cutB 2 xf87.body = .block 0 (.loop xf87l0) from rfl, Run_block, q1]
  generalize outT X (.loop xf87l0) _ _ = tm3 at *
  generalize outS X (.loop xf87l0) _ _ = σ3 at *
  cases he : (vL R t H P P.length).all (fun x => win x lo hi) with
  | true => simp [xf87, XCode.cutR, q2]
  | false =>
    have q3 := q3 he
    simp [xf87, XCode.cutR, q2, q3]
theorem loop25 {lo hi : Int} {R : List Md} {v : AVal} (hv : LV 4 Md.enc R v) (hr : R.length ≤ 1000) (L : List Int) {q : AVal} (hq : IntV L q) (hn : L.length ≤ 1000000) : ∀ (k i : Nat), i + k = L.length → ∀ (tm : List AVal) (σ : Store), tm.length = 35 → XOpd.eval tm (.t 3) = .ptr 0 0 → XOpd.eval tm (.t 4) = .ptr 1 0 → XOpd.eval tm (.t 2) = q → XOpd.eval tm (.t 7) = .int .i64 i → σ.get 0 = some (.cells [.int .i64 lo, .int .i64 hi, v]) → ∀ {g : NObj}, σ.get 1 = some g →
    Ends (Run X (.code (.loop xf25l0)) tm σ) (if (fiE (fun a => ixE a R.length) (L.drop i) i).2 = 0 then .exit 0 else .ret) fun tm' σ' => tm'.length = 35 ∧ XOpd.eval tm' (.t 3) = .ptr 0 0 ∧ XOpd.eval tm' (.t 4) = .ptr 1 0 ∧ XOpd.eval tm' (.t 2) = q ∧ σ'.get 0 = some (.cells [.int .i64 lo, .int .i64 hi, v]) ∧ σ'.get 1 = some g ∧ ((fiE (fun a => ixE a R.length) (L.drop i) i).2 ≠ 0 → XOpd.eval tm' (.t 6) = .int .i64 6)
  | 0, i, hk, tm, σ, hl, h3, h4, h2, h7, g0, g, g1 => by
    have hi' : i = L.length := by omega
    subst hi'
    obtain ⟨k1, k2⟩ := hq.len
    rw [Run_loop]
    simp [xf25l0, hl, h3, h4, h2, h7, g0, g1, k1, k2, fiE]
  | k + 1, i, hk, tm, σ, hl, h3, h4, h2, h7, g0, g, g1 => by
    have hi' : i < L.length := by omega
    have hii : (i : Int) < L.length := by omega
    have hd : L.drop i = L[i] :: L.drop (i + 1) := List.drop_eq_getElem_cons hi'
    have hw : IntKind.i64.wrap ((i : Int) + 1) = ((i + 1 : Nat) : Int) := by rw [wrap_i64] <;> omega
    have hwr : IntKind.i64.wrap ((R.length : Int) - 1) = R.length - 1 := wrp (by omega) (by omega)
    have hqq : q = .list 1 (ints L) none := hq.ne (by intro e; simp [e] at hi')
    have gm : ∀ h, (ints L)[i]'h = .int .i64 L[i] := fun h => by simp [ints]
    have hlm := ints_len L
    have hi2 : i < (ints L).length := by rw [hlm]; exact hi'
    have u := w33 hX.dxB.dxA L[i] 0 (R.length - 1)
    obtain ⟨k1, k2⟩ := hv.len
    have h2' := h2
    rw [Run_loop, hd]
    by_cases c : 0 ≤ L[i] ∧ L[i] < R.length
    · have he : ixE L[i] R.length = 0 := by unfold ixE; rw [if_pos c]
      have hc : win L[i] 0 (R.length - 1) = true := win_iff.2 (by omega)
      rw [hc] at u
      have key : Ends (Run X (.code xf25l0) tm σ) .normal fun tm' σ' => tm'.length = 35 ∧ XOpd.eval tm' (.t 3) = .ptr 0 0 ∧ XOpd.eval tm' (.t 4) = .ptr 1 0 ∧ XOpd.eval tm' (.t 2) = q ∧ XOpd.eval tm' (.t 7) = .int .i64 ((i + 1 : Nat) : Int) ∧ σ'.get 0 = some (.cells [.int .i64 lo, .int .i64 hi, v]) ∧ σ'.get 1 = some g := by
        rw [hqq] at h2 ⊢
        generalize ints L = A at *
        simp [xf25l0, hl, h3, h4, h2, h7, g0, g1, hi', hi2, hii, hlm, hw, hwr, gm, u, k1, k2, xload, AVal.cells, AVal.one, put_next, new_next, Store.get_new, Store.get_put, put_get, setR, only_get, merge_get', only_next, merge_next, upTo_self, upTo_one, merge_only, touch, wrote, isIn, okRec, hits, capsOf, xcaps, stripL, AVal.strip, freeL, AVal.free, fillR, chunks, mkV]
      obtain ⟨o1, p1, p2, p3, p4, p5, p6, p7⟩ := out_of key
      rw [o1, thenC_normal]
      simp only [fiE, he, if_true]
      exact loop25 hv hr L hq hn k (i + 1) (by omega) _ _ p1 p2 p3 p4 p5 p6 p7
    · have he : ixE L[i] R.length = 6 := by unfold ixE; rw [if_neg c]
      have hc : win L[i] 0 (R.length - 1) = false := by
        cases e : win L[i] 0 (R.length - 1) with
        | false => rfl
        | true => have := win_iff.1 e; exact absurd (by omega) c
      rw [hc] at u
      have he' : ¬ ixE L[i] R.length = 0 := by omega
      simp only [fiE, he', if_false]
      rw [hqq] at h2 ⊢
      generalize ints L = A at *
      simp [xf25l0, hl, h3, h4, h2, h7, g0, g1, hi', hi2, hii, hlm, hwr, gm, u, k1, k2, xload, AVal.cells, AVal.one, put_next, new_next, Store.get_new, Store.get_put, put_get, setR, only_get, merge_get', only_next, merge_next, upTo_self, upTo_one, merge_only, touch, wrote, isIn, okRec, hits, capsOf, xcaps, stripL, AVal.strip, freeL, AVal.free, fillR, chunks, mkV]
end
end Go.Proofs.Ytgijgcmcpgepaaa.Eng

/-
  DISPATCH: powers that follow; copies; lists that are the same.
-/
namespace Go.Proofs.Ytgijgcmcpgepaaa.Eng
set_option linter.unusedSimpArgs false
set_option linter.unusedVariables false
theorem ones_ints (L : List Int) : ones (ints L) = true := by simp [ones, ints, AVal.cells, AVal.one]
section
variable {X : FuncId → Option XFunc} (hX : DxACode X)
include hX
theorem w20 {L : List Int} {s : AVal} (h : IntV L s) (hn : L.length ≤ 1000000) (σ : Store) : Run X (.call 20) [s] σ = some (.ret, [.list 1 (ints L) none], σ) := by
  have fr := ints_fr L
  have key : Run X (.call 20) [s] σ = some (.ret, [(AVal.list 1 (ints L) (some 0)).strip], σ) := by
    refine call1 (a := s) (v := .list 1 (ints L) (some 0)) hX.h20 (by rw [h.free.2]; exact h.free.1) (by decide) (fun tm hl h0 => ?_) (by simp [AVal.strip, AVal.free, freeL_strip fr, fr]) σ
    rw [h.free.2] at h0
    replace hl : tm.length = 6 := hl
    unfold Gives
    cases L with
    | nil =>
      rcases h with e | ⟨e, _⟩ <;> rw [e] at h0 <;> simp [xf20, hl, h0, xappend, AVal.isSlice, ints, ones, xresult_one, xret_t, Store.empty, Store.new, Store.put, Store.get, look, putL, setR, Store.only, Store.merge, touch, wrote, upTo, isIn, okRec, hits, capsOf, xcaps, stripL, AVal.strip, freeL, AVal.free, fillR, chunks, mkV, List.filter]
    | cons a l =>
      have e := h.ne (by simp)
      have ho := ones_ints (a :: l)
      have hil : ints (a :: l) = .int .i64 a :: ints l := rfl
      have hlen := ints_len l
      rw [e, hil] at h0
      rw [hil] at ho
      simp only [List.length_cons] at hn
      have b1 : (l.length + 1) * 8 ≤ 1000000000000 := by omega
      have b2 : l.length + 1 ≤ 1000000000000 := by omega
      simp [xf20, hl, h0, ho, hlen, b1, b2, hil, xappend, AVal.isSlice, xresult_one, xret_t, Store.empty, Store.new, Store.put, Store.get, look, putL, setR, Store.only, Store.merge, touch, wrote, upTo, isIn, okRec, hits, capsOf, xcaps, stripL, AVal.strip, freeL, AVal.free, fillR, chunks, mkV, List.filter]
  simpa [AVal.strip, freeL_strip fr] using key
omit hX in
theorem loop26 (L : List Int) {w v : AVal} (hw : IntV L w) (hv : IntV L v) (hn : L.length ≤ 1000000000) : ∀ (k i : Nat), i + k = L.length → ∀ (tm : List AVal) (σ : Store), tm.length = 26 → XOpd.eval tm (.t 0) = w → XOpd.eval tm (.t 1) = v → XOpd.eval tm (.t 5) = .int .i64 i →
    Ends (Run X (.code (.loop xf26l0)) tm σ) (.exit 0) fun tm' _ => tm'.length = 26
  | 0, i, hk, tm, σ, hl, h0, h1, h5 => by
    have hi : i = L.length := by omega
    subst hi
    obtain ⟨hx, hd⟩ := hw.len
    rw [Run_loop]
    simp [xf26l0, hl, h0, h5, hx, hd]
  | k + 1, i, hk, tm, σ, hl, h0, h1, h5 => by
    have hi : i < L.length := by omega
    have hiw : IntKind.i64.wrap ((i : Int) + 1) = ((i + 1 : Nat) : Int) := by rw [wrap_i64] <;> omega
    have e0 : XOpd.eval tm (.t 0) = .list 1 (ints L) none := by rw [h0]; exact hw.ne (by intro e; simp [e] at hi)
    have e1 : XOpd.eval tm (.t 1) = .list 1 (ints L) none := by rw [h1]; exact hv.ne (by intro e; simp [e] at hi)
    have hg := ints_get hi
    have hln := ints_len L
    have ih := loop26 L hw hv hn k (i + 1) (by omega)
    have key : Ends (Run X (.code xf26l0) tm σ) .normal fun tm' _ => tm'.length = 26 ∧ XOpd.eval tm' (.t 0) = .list 1 (ints L) none ∧ XOpd.eval tm' (.t 1) = .list 1 (ints L) none ∧ XOpd.eval tm' (.t 5) = .int .i64 ((i + 1 : Nat) : Int) := by
      simp [xf26l0, hl, e0, e1, h5, hi, hiw, ints, xload, xlen, AVal.cells, put_next, new_next, Store.get_new, Store.get_put, put_get, setR, only_get, merge_get', only_next, merge_next, upTo_self, upTo_one, merge_only, touch, wrote, isIn, okRec, hits, capsOf, xcaps, stripL, AVal.strip, freeL, AVal.free, fillR, chunks, mkV]
    obtain ⟨o1, o2, o3, o4, o5⟩ := out_of key
    rw [Run_loop, o1, thenC_normal]
    exact ih _ _ o2 (by rw [o3, ← h0, e0]) (by rw [o4, ← h1, e1]) o5
theorem w26 {L : List Int} {w v : AVal} (hw : IntV L w) (hv : IntV L v) (hn : L.length ≤ 1000000000) (σ : Store) : Run X (.call 26) [w, v] σ = some (.ret, [.bool true], σ) := by
  have hL := fun tm σ h1 h2 h3 h4 => out_of (loop26 (X := X) L hw hv hn L.length 0 (by omega) tm σ h1 h2 h3 h4)
  obtain ⟨hx, hd⟩ := hw.len
  obtain ⟨hy, hd'⟩ := hv.len
  have c0 : ((0 : Nat) : Int) = 0 := rfl
  simp only [c0] at hL
  refine call2 (v := .bool true) hX.h26 (by rw [hw.free.2]; exact hw.free.1) (by rw [hv.free.2]; exact hv.free.1) (by decide) (fun tm hl h0 h1 => ?_) rfl σ
  rw [hw.free.2] at h0
  rw [hv.free.2] at h1
  replace hl : tm.length = 26 := hl
  unfold Gives
  simp (maxDischargeDepth := 9) [xf26, hl, h0, h1, hx, hy, hd, hd', hL, Store.empty, Store.new, Store.put, Store.get, look, putL, setR, Store.only, Store.merge, touch, wrote, upTo, isIn, okRec, hits, capsOf, xcaps, stripL, AVal.strip, freeL, AVal.free, fillR, chunks, mkV, List.filter]
/-! Powers that follow, of the program. -/
omit hX in
def I46 (s r : Int) (L : List Int) (v : AVal) (i : Nat) (tm : List AVal) (σ : Store) : Prop :=
  tm.length = 48 ∧ XOpd.eval tm (.t 1) = .int .i64 r ∧ XOpd.eval tm (.t 10) = .int .i64 (fS s r L i) ∧ XOpd.eval tm (.t 27) = v ∧ XOpd.eval tm (.t 28) = .int .i64 L.length ∧ XOpd.eval tm (.t 29) = .int .i64 i ∧ OutG 3 1 σ 0 (ints (folL s r L i)) (XOpd.eval tm (.t 9))
omit hX in
theorem round46 {s r : Int} {L : List Int} {v : AVal} (hv : IntV L v) (h : FIn s r L) (i : Nat) (hi : i < L.length) (tm : List AVal) (σ : Store) (hI : I46 s r L v i tm σ) : Ends (Run X (.code xf46l0) tm σ) .normal (I46 s r L v (i + 1)) := by
  obtain ⟨hl, h1, h10, h27, h28, h29, ho⟩ := hI
  have hn := h.n
  have hiw : IntKind.i64.wrap ((i : Int) + 1) = ((i + 1 : Nat) : Int) := by rw [wrap_i64] <;> omega
  have hvv : v = .list 1 (ints L) none := hv.ne (by intro e; simp [e] at hi)
  subst hvv
  have hg := ints_get hi
  have hgd : L.getD i 0 = L[i] := by simp [hi]
  have hd := h.at i
  have r0 := h.r0
  have r1 := h.r1
  have eS : fS s r L (i + 1) = nxP r (fS s r L i) L[i] := by show nxP r _ (L.getD i 0) = _; rw [hgd]
  have hlen := folL_len s r L i
  have eF : ints (folL s r L (i + 1)) = ints (folL s r L i) ++ [.int .i64 (nxP r (fS s r L i) L[i])] := by rw [folL_succ, ints_app, eS]
  unfold I46
  rw [eF, eS]
  generalize folL s r L i = P at *
  generalize fS s r L i = p at *
  generalize hvo : XOpd.eval tm (.t 9) = vo at *
  have hpl := ints_len P
  obtain ⟨v', σ', a1, a2, a3, a4⟩ := out_append (bytes := 8) (ho.tok (.tok 3 1 1)) (Nat.zero_le _) (x := .int .i64 (nxP r p L[i])) rfl (by decide) (by omega) (by omega) (some σ.next)
  have w1 : IntKind.i64.wrap (p - r) = p - r := wrp (by omega) (by omega)
  have w2 : IntKind.i64.wrap (p + r) = p + r := wrp (by omega) (by omega)
  have e : Ends (Run X (.code xf46l0) tm σ) .normal fun tm' σ'' => tm'.length = 48 ∧ XOpd.eval tm' (.t 1) = .int .i64 r ∧ XOpd.eval tm' (.t 10) = .int .i64 (nxP r p L[i]) ∧ XOpd.eval tm' (.t 27) = .list 1 (ints L) none ∧ XOpd.eval tm' (.t 28) = .int .i64 L.length ∧ XOpd.eval tm' (.t 29) = .int .i64 ((i + 1 : Nat) : Int) ∧ XOpd.eval tm' (.t 9) = v' ∧ σ'' = σ' := by
    have n1 : imin (imax L[i] (p - r)) (p + r) = nxP r p L[i] := rfl
    simp [xf46l0, hl, h1, h10, h27, h28, h29, hvo, hi, hg, hiw, w1, w2, a1, n1, ints, xext, xmm_max, xmm_min, xload, AVal.cells, put_next, new_next, Store.get_new, Store.get_put, put_get, setR, only_get, merge_get', only_next, merge_next, upTo_self, upTo_one, merge_only, touch, wrote, isIn, okRec, hits, capsOf, xcaps, stripL, AVal.strip, freeL, AVal.free, fillR, chunks, mkV, -xmm]
  obtain ⟨o1, p1, p2, p3, p4, p5, p6, p7, p8⟩ := out_of e
  exact ⟨_, _, o1, p1, p2, p3, p4, p5, p6, by rw [p7, p8]; exact a2⟩
end
end Go.Proofs.Ytgijgcmcpgepaaa.Eng

/-
  DISPATCH: the law of tasks.
-/
namespace Go.Proofs.Ytgijgcmcpgepaaa.Eng
set_option linter.unusedSimpArgs false
set_option linter.unusedVariables false
theorem mis_six (n : Nat) : ∀ (L : List Int) (i : Nat), (fiE (fun a => ixE a n) L i).2 = 0 ∨ (fiE (fun a => ixE a n) L i).2 = 6
  | [], _ => .inl rfl
  | a :: L, i => by
    unfold fiE
    by_cases c : 0 ≤ a ∧ a < n
    · have e : ixE a n = 0 := by unfold ixE; rw [if_pos c]
      simp only [e, if_true]; exact mis_six n L (i + 1)
    · have e : ixE a n = 6 := by unfold ixE; rw [if_neg c]
      simp [e]
section
variable {X : FuncId → Option XFunc} (hX : DxCCode X)
include hX
set_option maxHeartbeats 8000000 in
theorem w25 (lo hi : Int) (t : Tk) {R : List Md} {H : List Hour} {P : List Int} {v w p : AVal} (h : LIn R H P v w p) (ht : TIn lo hi R t H) (σ : Store) : Run X (.call 25) [plV lo hi v, tkV t w, p] σ = some (.ret, [.int .i64 (pE lo hi R t H P)], σ) := by
  have f1 := h.v.free Md.fr
  have f2 := h.w.free Hour.fr
  have f6 := h.p.free
  have f3 := plV_fr (lo := lo) (hi := hi) f1
  have f4 := tkV_fr (t := t) f2
  have pn := h.pn
  have rn := h.rn
  refine call3 (a := plV lo hi v) (b := tkV t w) (c := p) (v := .int .i64 (pE lo hi R t H P)) hX.h25 (by rw [f3.2]; exact f3.1) (by rw [f4.2]; exact f4.1) (by rw [f6.2]; exact f6.1) (by decide) (fun tm hl h0 h1 h2 => ?_) rfl σ
  rw [f3.2] at h0
  rw [f4.2] at h1
  rw [f6.2] at h2
  unfold plV at h0
  unfold tkV at h1
  replace hl : tm.length = 35 := hl
  obtain ⟨k1, k2⟩ := h.p.len
  obtain ⟨k3, k4⟩ := h.w.len
  unfold Gives pE misE
  by_cases c1 : P.length = H.length
  · have c1' : (P.length : Int) = H.length := by omega
    have eP : Ends (Run X (.code (XCode.cutP 2 xf25.body)) tm Store.empty) .normal fun tm' σ' => tm'.length = 35 ∧ XOpd.eval tm' (.t 3) = .ptr 0 0 ∧ XOpd.eval tm' (.t 4) = .ptr 1 0 ∧ XOpd.eval tm' (.t 2) = p ∧ XOpd.eval tm' (.t 7) = .int .i64 ((0 : Nat) : Int) ∧ σ'.get 0 = some (.cells [.int .i64 lo, .int .i64 hi, v]) ∧ σ'.get 1 = some (.cells [.int .i64 t.vol, .int .i64 t.mode, .int .i64 t.worth, w]) := by
      simp [xf25, XCode.cutP, hl, h0, h1, h2, k1, k2, k3, k4, c1, c1', xload, AVal.cells, AVal.one, Store.empty, Store.new, Store.put, Store.get, look, putL, setR, Store.only, Store.merge, touch, wrote, upTo, isIn, okRec, hits, capsOf, xcaps, stripL, AVal.strip, freeL, AVal.free, fillR, chunks, mkV, List.filter]
    obtain ⟨o1, p1, p2, p3, p4, p5, p6, p7⟩ := out_of eP
    obtain ⟨q1, q2, q3, q4, q5, q6, q7, q8⟩ := out_of (loop25 hX h.v (by omega) P h.p (by omega) P.length 0 (by omega) _ _ p1 p2 p3 p4 p5 p6 p7)
    simp only [List.drop_zero] at q1 q8
    rw [Run_cut 2, o1, thenC_normal, show XCode.cutB 2 xf25.body = .block 0 (.loop xf25l0) from rfl, Run_block, q1]
    generalize outT X (.loop xf25l0) _ _ = tm3 at *
    generalize outS X (.loop xf25l0) _ _ = σ3 at *
    rw [if_pos c1]
    by_cases c2 : (fiE (fun a => ixE a R.length) P 0).2 = 0
    · have u := w87 hX lo hi t h ht (pin_of c1 c2)
      unfold plV tkV at u
      rw [if_pos c2, if_pos c2, br_all]
      cases c3 : (vL R t H P P.length).all fun x => win x lo hi
      · rw [c3] at u
        simp [xf25, XCode.cutR, q2, q3, q4, q5, q6, q7, u, f1, f2, f6, xload, AVal.cells, AVal.one, put_next, new_next, Store.get_new, Store.get_put, put_get, setR, only_get, merge_get', only_next, merge_next, upTo_self, upTo_one, merge_only, touch, wrote, isIn, okRec, hits, capsOf, xcaps, stripL, AVal.strip, freeL, AVal.free, fillR, chunks, mkV]
      · rw [c3] at u
        simp [xf25, XCode.cutR, q2, q3, q4, q5, q6, q7, u, f1, f2, f6, xload, AVal.cells, AVal.one, put_next, new_next, Store.get_new, Store.get_put, put_get, setR, only_get, merge_get', only_next, merge_next, upTo_self, upTo_one, merge_only, touch, wrote, isIn, okRec, hits, capsOf, xcaps, stripL, AVal.strip, freeL, AVal.free, fillR, chunks, mkV]
    · have c6 := (mis_six R.length P 0).resolve_left c2
      rw [if_neg c2, if_neg c2, c6]
      have q8 := q8 c2
      simp [xf25, XCode.cutR, q2, q8]
  · have c1' : ¬ (P.length : Int) = H.length := by omega
    rw [if_neg c1]
    simp [xf25, hl, h0, h1, h2, k1, k2, k3, k4, c1, c1', xload, AVal.cells, AVal.one, Store.empty, Store.new, Store.put, Store.get, look, putL, setR, Store.only, Store.merge, touch, wrote, upTo, isIn, okRec, hits, capsOf, xcaps, stripL, AVal.strip, freeL, AVal.free, fillR, chunks, mkV, List.filter]
set_option maxHeartbeats 16000000 in
theorem w3 (hA : ∀ σ, Run X (.call 12) [] σ = some (.ret, [.bool true], σ)) (lo hi : Int) (t : Tk) {R : List Md} {H : List Hour} {P : List Int} {v w p : AVal} (hv : LV 4 Md.enc R v) (hw : LV 3 Hour.enc H w) (hp : IntV P p) (σ : Store) : Run X (.call 3) [plV lo hi v, tkV t w, p] σ = some (.ret, [.bool true], σ) := by
  have f1 := hv.free Md.fr
  have f2 := hw.free Hour.fr
  have f6 := hp.free
  have f3 := plV_fr (lo := lo) (hi := hi) f1
  have f4 := tkV_fr (t := t) f2
  refine call3 (a := plV lo hi v) (b := tkV t w) (c := p) (v := .bool true) hX.h3 (by rw [f3.2]; exact f3.1) (by rw [f4.2]; exact f4.1) (by rw [f6.2]; exact f6.1) (by decide) (fun tm hl h0 h1 h2 => ?_) rfl σ
  rw [f3.2] at h0
  rw [f4.2] at h1
  rw [f6.2] at h2
  unfold plV at h0
  unfold tkV at h1
  replace hl : tm.length = 172 := hl
  have u13 := w13 hX.dxB lo hi hv
  have u14 := w14 hX.dxB t hw
  obtain ⟨k1, k2⟩ := hp.len
  unfold plV at u13
  unfold tkV at u14
  unfold Gives
  cases c1 : fewB R
  · simp [xf3, hl, h0, h1, h2, hA, u13, f1, f2, f6, c1, xload, AVal.cells, AVal.one, Store.empty, Store.new, Store.put, Store.get, look, putL, setR, Store.only, Store.merge, touch, wrote, upTo, isIn, okRec, hits, capsOf, xcaps, stripL, AVal.strip, freeL, AVal.free, fillR, chunks, mkV, List.filter]
  by_cases c2 : H.length ≤ 12
  · by_cases c3 : P.length ≤ 12
    · have c3' : ¬ (12 : Int) < P.length := by omega
      obtain ⟨r1, r2⟩ := fewB_of c1
      have fm := fr_map Md.fr R
      have fh := fr_map Hour.fr H
      have fms := freeL_strip fm
      have fhs := freeL_strip fh
      have fi := ints_fr P
      have fis := freeL_strip fi
      have hv' : LV 4 Md.enc R (.list 4 (R.map Md.enc) none) := .inl rfl
      have hw' : LV 3 Hour.enc H (.list 3 (H.map Hour.enc) none) := .inl rfl
      have hp' : IntV P (.list 1 (ints P) none) := .inl rfl
      have hL : LIn R H P v w p := ⟨hv, hw, hp, r1, r2, c2, c3⟩
      have hL' : LIn R H P (.list 4 (R.map Md.enc) none) (.list 3 (H.map Hour.enc) none) (.list 1 (ints P) none) := ⟨hv', hw', hp', r1, r2, c2, c3⟩
      have u16 := w16 hX.dxB lo hi hv (by omega)
      have u18 := w18 hX.dxB t hw (by omega)
      have u20 := w20 hX.dxB.dxA hp (by omega)
      have u15 := w15 hX.dxB lo hi hv' (by omega) r2
      have u17 := w17 hX.dxB lo hi hv' (by omega) r2 t hw' (by omega)
      have u23 := w23 hX.dxB lo hi hv (by omega) r2
      have u24 := w24 hX.dxB lo hi hv (by omega) r2 t hw (by omega)
      unfold plV at u15 u16 u17 u23 u24
      unfold tkV at u17 u18 u24
      by_cases c4 : (tkC lo hi R t H).2 = 0
      · have ht := tin_of c4
        have u25 := w25 hX lo hi t hL ht
        unfold plV tkV at u25
        have et : teE lo hi R t H P = pE lo hi R t H P := by unfold teE; rw [if_pos c4]
        by_cases c5 : pE lo hi R t H P = 0
        · have e0 : teE lo hi R t H P = 0 := by rw [et, c5]
          obtain ⟨_, hP⟩ := teE_in e0
          obtain ⟨q, hq, u19⟩ := w19 hX lo hi t hL' e0
          obtain ⟨q', hq', u27⟩ := w27 hX hv hw (lo := lo) (hi := hi) hp ht hP
          have u26 := w26 hX.dxB.dxA hq hq' (by rw [vL_len]; omega)
          have u21 := w21 hX lo hi t hL' e0
          have u22 := w22 hX lo hi t hL' e0
          have u28 := w28 hX hv hw (lo := lo) (hi := hi) hp ht hP
          have u29 := w29 hX (t := t) f2 hp (by omega)
          have f7 := hq.free
          have f8 := hq'.free
          unfold plV at u19 u21 u22 u27 u28
          unfold tkV at u19 u21 u22 u27 u28 u29
          rw [c4] at u17 u24
          rw [c5] at u25
          simp [xf3, hl, h0, h1, h2, hA, u13, u14, u15, u16, u17, u18, u19, u20, u21, u22, u23, u24, u25, u26, u27, u28, u29, f1, f2, f6, f7, f8, fm, fh, fms, fhs, fi, fis, k1, k2, c1, c2, c3', xload, AVal.cells, AVal.one, Store.empty, Store.new, Store.put, Store.get, look, putL, setR, Store.only, Store.merge, touch, wrote, upTo, isIn, okRec, hits, capsOf, xcaps, stripL, AVal.strip, freeL, AVal.free, fillR, chunks, mkV, List.filter]
        · have e0 : teE lo hi R t H P ≠ 0 := by rw [et]; exact c5
          have u19 := w19bad hX lo hi t hL' e0
          have u21 := w21bad hX lo hi t hL' e0
          have u22 := w22bad hX lo hi t hL' e0
          rw [et] at u19 u21 u22
          unfold plV tkV at u19 u21 u22
          rw [c4] at u17 u24
          simp [xf3, hl, h0, h1, h2, hA, u13, u14, u15, u16, u17, u18, u19, u20, u21, u22, u23, u24, u25, f1, f2, f6, fm, fh, fms, fhs, fi, fis, k1, k2, c1, c2, c3', c5, xload, AVal.cells, AVal.one, Store.empty, Store.new, Store.put, Store.get, look, putL, setR, Store.only, Store.merge, touch, wrote, upTo, isIn, okRec, hits, capsOf, xcaps, stripL, AVal.strip, freeL, AVal.free, fillR, chunks, mkV, List.filter]
      · have et : teE lo hi R t H P = (tkC lo hi R t H).2 := by unfold teE; rw [if_neg c4]
        have e0 : teE lo hi R t H P ≠ 0 := by rw [et]; exact c4
        have u19 := w19bad hX lo hi t hL' e0
        have u21 := w21bad hX lo hi t hL' e0
        have u22 := w22bad hX lo hi t hL' e0
        rw [et] at u19 u21 u22
        unfold plV tkV at u19 u21 u22
        simp [xf3, hl, h0, h1, h2, hA, u13, u14, u15, u16, u17, u18, u19, u20, u21, u22, u23, u24, f1, f2, f6, fm, fh, fms, fhs, fi, fis, k1, k2, c1, c2, c3', c4, xload, AVal.cells, AVal.one, Store.empty, Store.new, Store.put, Store.get, look, putL, setR, Store.only, Store.merge, touch, wrote, upTo, isIn, okRec, hits, capsOf, xcaps, stripL, AVal.strip, freeL, AVal.free, fillR, chunks, mkV, List.filter]
    · have c3' : (12 : Int) < P.length := by omega
      simp [xf3, hl, h0, h1, h2, hA, u13, u14, f1, f2, f6, k1, k2, c1, c2, c3', xload, AVal.cells, AVal.one, Store.empty, Store.new, Store.put, Store.get, look, putL, setR, Store.only, Store.merge, touch, wrote, upTo, isIn, okRec, hits, capsOf, xcaps, stripL, AVal.strip, freeL, AVal.free, fillR, chunks, mkV, List.filter]
  · simp [xf3, hl, h0, h1, h2, hA, u13, u14, f1, f2, f6, c1, c2, xload, AVal.cells, AVal.one, Store.empty, Store.new, Store.put, Store.get, look, putL, setR, Store.only, Store.merge, touch, wrote, upTo, isIn, okRec, hits, capsOf, xcaps, stripL, AVal.strip, freeL, AVal.free, fillR, chunks, mkV, List.filter]
end
end Go.Proofs.Ytgijgcmcpgepaaa.Eng

/-
  DISPATCH: for how many hours a mode can be given.
-/
namespace Go.Proofs.Ytgijgcmcpgepaaa.Eng
set_option linter.unusedSimpArgs false
set_option linter.unusedVariables false
/-- The volume after so many hours of a mode, from an hour on. -/
def gvS (ch : Int) (H : List Hour) (x : Int) (i : Nat) : Nat → Int
  | 0 => x
  | n + 1 => gvS ch H x i n + (H.getD (i + n) hr0).inf + ch
/-- The volume leaves the limits in this hour. -/
def gvP (lo hi ch : Int) (H : List Hour) (x : Int) (i j : Nat) : Bool := !win (gvS ch H x i (j + 1 - i)) lo hi
def gvO (n i : Nat) : Option Nat → Nat
  | none => n - i
  | some j => j - i
/-- For how many hours it can be given. -/
def gv (lo hi ch : Int) (H : List Hour) (x : Int) (i : Nat) : Nat := gvO H.length i (fstP (gvP lo hi ch H x i) (H.length - i) i)
theorem gv_le (lo hi ch : Int) (H : List Hour) (x : Int) (i : Nat) : gv lo hi ch H x i ≤ H.length - i := by
  unfold gv
  cases h : fstP (gvP lo hi ch H x i) (H.length - i) i with
  | none => exact Nat.le_refl _
  | some j => have := fstP_some h; show j - i ≤ _; omega
theorem gvS_in {lo hi : Int} {R : List Md} {t : Tk} {H : List Hour} (h : TIn lo hi R t H) (k : Nat) {x : Int} (hx : -200000 ≤ x ∧ x ≤ 1200000) (i : Nat) : ∀ n : Nat, -200000 - (n : Int) * 20000 ≤ gvS (R.getD k md0).ch H x i n ∧ gvS (R.getD k md0).ch H x i n ≤ 1200000 + (n : Int) * 20000
  | 0 => by simp only [gvS]; omega
  | n + 1 => by
    have a := gvS_in h k hx i n
    have b := h.md k
    have c := h.hr (i + n)
    simp only [gvS]
    omega
section
variable {X : FuncId → Option XFunc} (hX : DxDCode X)
include hX
omit hX in
def I98 (lo hi : Int) (v : AVal) (t : Tk) (w : AVal) (ch : Int) (H : List Hour) (x : Int) (i k j : Nat) (tm : List AVal) (σ : Store) : Prop :=
  tm.length = 38 ∧ XOpd.eval tm (.t 4) = .ptr 0 0 ∧ XOpd.eval tm (.t 1) = .int .i64 i ∧ XOpd.eval tm (.t 2) = .int .i64 (gvS ch H x i (j - i)) ∧ XOpd.eval tm (.t 3) = .int .i64 k ∧ XOpd.eval tm (.t 9) = .int .i64 j ∧ i ≤ j ∧ σ.get 0 = some (.cells [.int .i64 lo, .int .i64 hi, v, .int .i64 t.vol, .int .i64 t.mode, .int .i64 t.worth, w])
set_option maxHeartbeats 8000000 in
theorem round98 {lo hi : Int} {R : List Md} {v : AVal} (hv : LV 4 Md.enc R v) {t : Tk} {H : List Hour} {w : AVal} (hw : LV 3 Hour.enc H w) (ht : TIn lo hi R t H) {k : Nat} (hk : k < R.length) {x : Int} (hx : -200000 ≤ x ∧ x ≤ 1200000) (i j : Nat) (hj : j < H.length) (tm : List AVal) (σ : Store) (hI : I98 lo hi v t w (R.getD k md0).ch H x i k j tm σ) :
    Ends (Run X (.code xf98l0) tm σ) (if gvP lo hi (R.getD k md0).ch H x i j then .ret else .normal) (fun tm' σ' => if gvP lo hi (R.getD k md0).ch H x i j then tm'.length = 38 ∧ XOpd.eval tm' (.t 8) = .int .i64 ((j - i : Nat) : Int) else I98 lo hi v t w (R.getD k md0).ch H x i k (j + 1) tm' σ') := by
  obtain ⟨hl, h4, h1, h2, h3, h9, hij, g0⟩ := hI
  have hnn := ht.hn
  have hiw : IntKind.i64.wrap ((j : Int) + 1) = ((j + 1 : Nat) : Int) := by rw [wrap_i64] <;> omega
  have hid : IntKind.i64.wrap ((j : Int) - i) = ((j - i : Nat) : Int) := by rw [wrap_i64] <;> omega
  have b := gvS_in ht k hx i (j - i)
  have bm := ht.md k
  have bh := ht.hr j
  have u := w122 hX.dxC hv hw (lo := lo) (hi := hi) (t := t) hj hk (gvS (R.getD k md0).ch H x i (j - i)) (wrp (by omega) (by omega)) (wrp (by omega) (by omega))
  have eS : gvS (R.getD k md0).ch H x i (j + 1 - i) = gvS (R.getD k md0).ch H x i (j - i) + (H.getD j hr0).inf + (R.getD k md0).ch := by
    rw [show j + 1 - i = (j - i) + 1 from by omega]
    simp only [gvS]
    rw [show i + (j - i) = j from by omega]
  rw [← eS] at u
  have u2 := w130 hX.dxC lo hi hv (gvS (R.getD k md0).ch H x i (j + 1 - i))
  obtain ⟨l1, l2⟩ := hw.len
  have f1 := hv.free Md.fr
  have f2 := hw.free Hour.fr
  unfold ptV at u
  unfold plV at u2
  unfold I98 gvP
  clear b bm bh eS
  generalize (R.getD k md0).ch = ch at *
  generalize hx1 : gvS ch H x i (j + 1 - i) = x1 at *
  generalize gvS ch H x i (j - i) = x0 at *
  have ij : i ≤ j + 1 := by omega
  cases hq : win x1 lo hi with
  | true =>
    rw [hq] at u2
    simp [xf98l0, hl, h1, h2, h3, h4, h9, g0, l1, l2, hj, u, u2, f1, f2, hiw, hid, ij, hx1, xload, AVal.one, put_next, new_next, Store.get_new, Store.get_put, put_get, setR, only_get, merge_get', only_next, merge_next, upTo_self, upTo_one, merge_only, touch, wrote, isIn, okRec, hits, capsOf, xcaps, stripL, AVal.strip, freeL, AVal.free, fillR, chunks, mkV]
  | false =>
    rw [hq] at u2
    simp [xf98l0, hl, h1, h2, h3, h4, h9, g0, l1, l2, hj, u, u2, f1, f2, hiw, hid, ij, hx1, xload, AVal.one, put_next, new_next, Store.get_new, Store.get_put, put_get, setR, only_get, merge_get', only_next, merge_next, upTo_self, upTo_one, merge_only, touch, wrote, isIn, okRec, hits, capsOf, xcaps, stripL, AVal.strip, freeL, AVal.free, fillR, chunks, mkV]
theorem loop98 {lo hi : Int} {R : List Md} {v : AVal} (hv : LV 4 Md.enc R v) {t : Tk} {H : List Hour} {w : AVal} (hw : LV 3 Hour.enc H w) (ht : TIn lo hi R t H) {k : Nat} (hk : k < R.length) {x : Int} (hx : -200000 ≤ x ∧ x ≤ 1200000) (i : Nat) (hi' : i ≤ H.length) (tm : List AVal) (σ : Store) (hI : I98 lo hi v t w (R.getD k md0).ch H x i k i tm σ) :
    Ends (Run X (.code (.loop xf98l0)) tm σ) (exF (.exit 0) .ret (fstP (gvP lo hi (R.getD k md0).ch H x i) (H.length - i) i)) (quF (fun tm σ => tm.length = 38 ∧ XOpd.eval tm (.t 4) = .ptr 0 0 ∧ XOpd.eval tm (.t 1) = .int .i64 i ∧ σ.get 0 = some (.cells [.int .i64 lo, .int .i64 hi, v, .int .i64 t.vol, .int .i64 t.mode, .int .i64 t.worth, w])) (fun j tm _ => tm.length = 38 ∧ XOpd.eval tm (.t 8) = .int .i64 ((j - i : Nat) : Int)) (fstP (gvP lo hi (R.getD k md0).ch H x i) (H.length - i) i)) := by
  refine loop_stop H.length (gvP lo hi (R.getD k md0).ch H x i) (I98 lo hi v t w (R.getD k md0).ch H x i k) (by simp) (by simp) (fun j tm σ hj hp h => ?_) (fun j tm σ hj hp h => ?_) (fun tm σ h => ?_) (H.length - i) i (by omega) tm σ hI
  · have r := round98 hX hv hw ht hk hx i j hj tm σ h
    rw [hp] at r
    exact r
  · have r := round98 hX hv hw ht hk hx i j hj tm σ h
    rw [hp] at r
    exact r
  · obtain ⟨hl, h4, h1, h2, h3, h9, hij, g0⟩ := h
    obtain ⟨l1, l2⟩ := hw.len
    simp [xf98l0, hl, h1, h2, h3, h4, h9, g0, l1, l2, xload, AVal.one, put_next, new_next, Store.get_new, Store.get_put, put_get, setR, only_get, merge_get', only_next, merge_next, upTo_self, upTo_one, merge_only, touch, wrote, isIn, okRec, hits, capsOf, xcaps, stripL, AVal.strip, freeL, AVal.free, fillR, chunks, mkV]
set_option maxHeartbeats 8000000 in
theorem w98 {lo hi : Int} {R : List Md} {v : AVal} (hv : LV 4 Md.enc R v) {t : Tk} {H : List Hour} {w : AVal} (hw : LV 3 Hour.enc H w) (ht : TIn lo hi R t H) {k : Nat} (hk : k < R.length) {x : Int} (hx : -200000 ≤ x ∧ x ≤ 1200000) {i : Nat} (hi' : i ≤ H.length) (σ : Store) :
    Run X (.call 98) [ptV lo hi v t w, .int .i64 i, .int .i64 x, .int .i64 k] σ = some (.ret, [.int .i64 (gv lo hi (R.getD k md0).ch H x i)], σ) := by
  have f1 := hv.free Md.fr
  have f2 := hw.free Hour.fr
  have f5 := ptV_fr (lo := lo) (hi := hi) (t := t) f1 f2
  refine call4 (a := ptV lo hi v t w) (b := .int .i64 i) (c := .int .i64 x) (d := .int .i64 k) (v := .int .i64 (gv lo hi (R.getD k md0).ch H x i)) hX.h98 (by rw [f5.2]; exact f5.1) rfl rfl rfl (by decide) (fun tm hl h0 h1 h2 h3 => ?_) rfl σ
  rw [f5.2] at h0
  simp only [AVal.strip] at h1 h2 h3
  unfold ptV at h0
  replace hl : tm.length = 38 := hl
  have hnn := ht.hn
  obtain ⟨l1, l2⟩ := hw.len
  have hid : IntKind.i64.wrap ((H.length : Int) - i) = ((H.length - i : Nat) : Int) := by rw [wrap_i64] <;> omega
  have hb : gvS (R.getD k md0).ch H x i (i - i) = x := by rw [Nat.sub_self]; rfl
  have eP : Ends (Run X (.code (XCode.cutP 1 xf98.body)) tm Store.empty) .normal (I98 lo hi v t w (R.getD k md0).ch H x i k i) := by
    unfold I98
    rw [hb]
    simp [xf98, XCode.cutP, hl, h0, h1, h2, h3, Store.empty, Store.new, Store.put, Store.get, look, putL, setR, Store.only, Store.merge, touch, wrote, upTo, isIn, okRec, hits, capsOf, xcaps, stripL, AVal.strip, freeL, AVal.free, fillR, chunks, mkV, List.filter]
  obtain ⟨o1, o2⟩ := out_of eP
  obtain ⟨q1, q2⟩ := out_of (loop98 hX hv hw ht hk hx i hi' _ _ o2)
  unfold Gives gv
  generalize (R.getD k md0).ch = ch at *
  rw [Run_cut 1, o1, thenC_normal, show XCode.cutB 1 xf98.body = .block 0 (.loop xf98l0) from rfl, Run_block, q1]
  generalize outT X (.loop xf98l0) _ _ = tm3 at *
  generalize outS X (.loop xf98l0) _ _ = σ3 at *
  cases hf : fstP (gvP lo hi ch H x i) (H.length - i) i with
  | none =>
    rw [hf] at q2
    simp only [quF] at q2
    obtain ⟨p1, p2, p3, p4⟩ := q2
    simp only [exF]
    rw [blockC_exit]
    simp [xf98, XCode.cutR, gvO, p1, p2, p3, p4, l1, l2, hid, xload, AVal.cells, AVal.one, put_next, new_next, Store.get_new, Store.get_put, put_get, setR, only_get, merge_get', only_next, merge_next, upTo_self, upTo_one, merge_only, touch, wrote, isIn, okRec, hits, capsOf, xcaps, stripL, AVal.strip, freeL, AVal.free, fillR, chunks, mkV]
  | some j =>
    rw [hf] at q2
    simp only [quF] at q2
    obtain ⟨p1, p2⟩ := q2
    simp only [exF]
    rw [blockC_ret, thenC_ret]
    simp [xf98, gvO, p1, p2, put_next, new_next, Store.get_new, Store.get_put, put_get, setR, only_get, merge_get', only_next, merge_next, upTo_self, upTo_one, merge_only, touch, wrote, isIn, okRec, hits, capsOf, xcaps, stripL, AVal.strip, freeL, AVal.free, fillR, chunks, mkV]
end
end Go.Proofs.Ytgijgcmcpgepaaa.Eng

/-
  DISPATCH: for how many hours a mode can be given, by the reference.
-/
namespace Go.Proofs.Ytgijgcmcpgepaaa.Eng
set_option linter.unusedSimpArgs false
set_option linter.unusedVariables false
section
variable {X : FuncId → Option XFunc} (hX : DxDCode X)
include hX
omit hX in
def I99 (lo hi : Int) (v : AVal) (t : Tk) (w : AVal) (ch : Int) (H : List Hour) (x : Int) (i k j : Nat) (tm : List AVal) (σ : Store) : Prop :=
  tm.length = 47 ∧ XOpd.eval tm (.t 5) = .ptr 0 0 ∧ XOpd.eval tm (.t 6) = .ptr 1 0 ∧ XOpd.eval tm (.t 3) = .int .i64 (gvS ch H x i (j - i)) ∧ XOpd.eval tm (.t 4) = .int .i64 k ∧ XOpd.eval tm (.t 11) = .int .i64 ((j - i : Nat) : Int) ∧ XOpd.eval tm (.t 12) = .int .i64 j ∧ i ≤ j ∧ σ.get 0 = some (.cells [.int .i64 lo, .int .i64 hi, v]) ∧ σ.get 1 = some (.cells [.int .i64 t.vol, .int .i64 t.mode, .int .i64 t.worth, w])
set_option maxHeartbeats 8000000 in
theorem round99 {lo hi : Int} {R : List Md} {v : AVal} (hv : LV 4 Md.enc R v) {t : Tk} {H : List Hour} {w : AVal} (hw : LV 3 Hour.enc H w) (ht : TIn lo hi R t H) {k : Nat} (hk : k < R.length) {x : Int} (hx : -200000 ≤ x ∧ x ≤ 1200000) (i j : Nat) (hj : j < H.length) (tm : List AVal) (σ : Store) (hI : I99 lo hi v t w (R.getD k md0).ch H x i k j tm σ) :
    Ends (Run X (.code xf99l0) tm σ) (if gvP lo hi (R.getD k md0).ch H x i j then .ret else .normal) (fun tm' σ' => if gvP lo hi (R.getD k md0).ch H x i j then tm'.length = 47 ∧ XOpd.eval tm' (.t 10) = .int .i64 ((j - i : Nat) : Int) else I99 lo hi v t w (R.getD k md0).ch H x i k (j + 1) tm' σ') := by
  obtain ⟨hl, h5, h6, h3, h4, h11, h12, hij, g0, g1⟩ := hI
  have hnn := ht.hn
  have hiw : IntKind.i64.wrap ((j : Int) + 1) = ((j + 1 : Nat) : Int) := by rw [wrap_i64] <;> omega
  have hid : IntKind.i64.wrap (((j - i : Nat) : Int) + 1) = ((j + 1 - i : Nat) : Int) := by rw [wrap_i64] <;> omega
  have b := gvS_in ht k hx i (j - i)
  have bm := ht.md k
  have bh := ht.hr j
  have b1 : IntKind.i64.wrap (gvS (R.getD k md0).ch H x i (j - i) + (H.getD j hr0).inf) = gvS (R.getD k md0).ch H x i (j - i) + (H.getD j hr0).inf := wrp (by omega) (by omega)
  have b2 : IntKind.i64.wrap (gvS (R.getD k md0).ch H x i (j - i) + (H.getD j hr0).inf + (R.getD k md0).ch) = gvS (R.getD k md0).ch H x i (j - i) + (H.getD j hr0).inf + (R.getD k md0).ch := wrp (by omega) (by omega)
  have eS : gvS (R.getD k md0).ch H x i (j + 1 - i) = gvS (R.getD k md0).ch H x i (j - i) + (H.getD j hr0).inf + (R.getD k md0).ch := by
    rw [show j + 1 - i = (j - i) + 1 from by omega]
    simp only [gvS]
    rw [show i + (j - i) = j from by omega]
  have u2 := w33 hX.dxC.dxB.dxA (gvS (R.getD k md0).ch H x i (j + 1 - i)) lo hi
  have e1 := hv.ne (show R ≠ [] by intro e; simp [e] at hk)
  have e2 := hw.ne (show H ≠ [] by intro e; simp [e] at hj)
  obtain ⟨d, hd⟩ : ∃ d, R.getD k md0 = d := ⟨_, rfl⟩
  obtain ⟨e, he⟩ : ∃ e, H.getD j hr0 = e := ⟨_, rfl⟩
  have m1 := md_get hk hd
  have m2 := hr_get hj he
  unfold I99 gvP
  rw [hd] at b1 b2 eS h3 u2 ⊢
  rw [he] at b1 b2 eS
  rw [e1] at g0 ⊢
  rw [e2] at g1 ⊢
  have l1 : (R.map Md.enc).length = R.length := by simp
  have l2 : (H.map Hour.enc).length = H.length := by simp
  clear b bm bh
  generalize R.map Md.enc = A at *
  generalize H.map Hour.enc = B at *
  have i1 : k < A.length := by omega
  have i2 : j < B.length := by omega
  generalize hx1 : gvS d.ch H x i (j + 1 - i) = x1 at *
  generalize gvS d.ch H x i (j - i) = x0 at *
  have b3 : IntKind.i64.wrap (x0 + e.inf + d.ch) = x1 := by rw [b2, ← eS]
  have ij : i ≤ j + 1 := by omega
  clear b2
  cases hq : win x1 lo hi with
  | true =>
    rw [hq] at u2
    simp [xf99l0, hl, h3, h4, h5, h6, h11, h12, g0, g1, l1, l2, hj, hk, i1, i2, m1, m2, b1, b3, u2, hiw, hid, ij, hx1, xload, xlen, AVal.cells, AVal.one, put_next, new_next, Store.get_new, Store.get_put, put_get, setR, only_get, merge_get', only_next, merge_next, upTo_self, upTo_one, merge_only, touch, wrote, isIn, okRec, hits, capsOf, xcaps, stripL, AVal.strip, freeL, AVal.free, fillR, chunks, mkV]
  | false =>
    rw [hq] at u2
    simp [xf99l0, hl, h3, h4, h5, h6, h11, h12, g0, g1, l1, l2, hj, hk, i1, i2, m1, m2, b1, b3, u2, hiw, hid, ij, hx1, xload, xlen, AVal.cells, AVal.one, put_next, new_next, Store.get_new, Store.get_put, put_get, setR, only_get, merge_get', only_next, merge_next, upTo_self, upTo_one, merge_only, touch, wrote, isIn, okRec, hits, capsOf, xcaps, stripL, AVal.strip, freeL, AVal.free, fillR, chunks, mkV]
theorem loop99 {lo hi : Int} {R : List Md} {v : AVal} (hv : LV 4 Md.enc R v) {t : Tk} {H : List Hour} {w : AVal} (hw : LV 3 Hour.enc H w) (ht : TIn lo hi R t H) {k : Nat} (hk : k < R.length) {x : Int} (hx : -200000 ≤ x ∧ x ≤ 1200000) (i : Nat) (hi' : i ≤ H.length) (tm : List AVal) (σ : Store) (hI : I99 lo hi v t w (R.getD k md0).ch H x i k i tm σ) :
    Ends (Run X (.code (.loop xf99l0)) tm σ) (exF (.exit 0) .ret (fstP (gvP lo hi (R.getD k md0).ch H x i) (H.length - i) i)) (quF (fun tm σ => tm.length = 47 ∧ XOpd.eval tm (.t 11) = .int .i64 ((H.length - i : Nat) : Int)) (fun j tm _ => tm.length = 47 ∧ XOpd.eval tm (.t 10) = .int .i64 ((j - i : Nat) : Int)) (fstP (gvP lo hi (R.getD k md0).ch H x i) (H.length - i) i)) := by
  refine loop_stop H.length (gvP lo hi (R.getD k md0).ch H x i) (I99 lo hi v t w (R.getD k md0).ch H x i k) (by simp) (by simp) (fun j tm σ hj hp h => ?_) (fun j tm σ hj hp h => ?_) (fun tm σ h => ?_) (H.length - i) i (by omega) tm σ hI
  · have r := round99 hX hv hw ht hk hx i j hj tm σ h
    rw [hp] at r
    exact r
  · have r := round99 hX hv hw ht hk hx i j hj tm σ h
    rw [hp] at r
    exact r
  · obtain ⟨hl, h5, h6, h3, h4, h11, h12, hij, g0, g1⟩ := h
    obtain ⟨l1, l2⟩ := hw.len
    simp [xf99l0, hl, h5, h6, h3, h4, h11, h12, g0, g1, l1, l2, xload, AVal.one, put_next, new_next, Store.get_new, Store.get_put, put_get, setR, only_get, merge_get', only_next, merge_next, upTo_self, upTo_one, merge_only, touch, wrote, isIn, okRec, hits, capsOf, xcaps, stripL, AVal.strip, freeL, AVal.free, fillR, chunks, mkV]
set_option maxHeartbeats 8000000 in
theorem w99 {lo hi : Int} {R : List Md} {v : AVal} (hv : LV 4 Md.enc R v) {t : Tk} {H : List Hour} {w : AVal} (hw : LV 3 Hour.enc H w) (ht : TIn lo hi R t H) {k : Nat} (hk : k < R.length) {x : Int} (hx : -200000 ≤ x ∧ x ≤ 1200000) {i : Nat} (hi' : i ≤ H.length) (σ : Store) :
    Run X (.call 99) [plV lo hi v, tkV t w, .int .i64 i, .int .i64 x, .int .i64 k] σ = some (.ret, [.int .i64 (gv lo hi (R.getD k md0).ch H x i)], σ) := by
  have f1 := hv.free Md.fr
  have f2 := hw.free Hour.fr
  have f3 := plV_fr (lo := lo) (hi := hi) f1
  have f4 := tkV_fr (t := t) f2
  refine call5 (a := plV lo hi v) (b := tkV t w) (c := .int .i64 i) (d := .int .i64 x) (e := .int .i64 k) (v := .int .i64 (gv lo hi (R.getD k md0).ch H x i)) hX.h99 (by rw [f3.2]; exact f3.1) (by rw [f4.2]; exact f4.1) rfl rfl rfl (by decide) (fun tm hl h0 h1 h2 h3 h4 => ?_) rfl σ
  rw [f3.2] at h0
  rw [f4.2] at h1
  simp only [AVal.strip] at h2 h3 h4
  unfold plV at h0
  unfold tkV at h1
  replace hl : tm.length = 47 := hl
  have hb : gvS (R.getD k md0).ch H x i (i - i) = x := by rw [Nat.sub_self]; rfl
  have eP : Ends (Run X (.code (XCode.cutP 2 xf99.body)) tm Store.empty) .normal (I99 lo hi v t w (R.getD k md0).ch H x i k i) := by
    unfold I99
    rw [hb]
    simp [xf99, XCode.cutP, hl, h0, h1, h2, h3, h4, Store.empty, Store.new, Store.put, Store.get, look, putL, setR, Store.only, Store.merge, touch, wrote, upTo, isIn, okRec, hits, capsOf, xcaps, stripL, AVal.strip, freeL, AVal.free, fillR, chunks, mkV, List.filter]
  obtain ⟨o1, o2⟩ := out_of eP
  obtain ⟨q1, q2⟩ := out_of (loop99 hX hv hw ht hk hx i hi' _ _ o2)
  unfold Gives gv
  generalize (R.getD k md0).ch = ch at *
  rw [Run_cut 2, o1, thenC_normal, show XCode.cutB 2 xf99.body = .block 0 (.loop xf99l0) from rfl, Run_block, q1]
  generalize outT X (.loop xf99l0) _ _ = tm3 at *
  generalize outS X (.loop xf99l0) _ _ = σ3 at *
  cases hf : fstP (gvP lo hi ch H x i) (H.length - i) i with
  | none =>
    rw [hf] at q2
    simp only [quF] at q2
    obtain ⟨p1, p2⟩ := q2
    simp only [exF]
    rw [blockC_exit]
    simp [xf99, XCode.cutR, gvO, p1, p2, put_next, new_next, Store.get_new, Store.get_put, put_get, setR, only_get, merge_get', only_next, merge_next, upTo_self, upTo_one, merge_only, touch, wrote, isIn, okRec, hits, capsOf, xcaps, stripL, AVal.strip, freeL, AVal.free, fillR, chunks, mkV]
  | some j =>
    rw [hf] at q2
    simp only [quF] at q2
    obtain ⟨p1, p2⟩ := q2
    simp only [exF]
    rw [blockC_ret, thenC_ret]
    simp [xf99, gvO, p1, p2, put_next, new_next, Store.get_new, Store.get_put, put_get, setR, only_get, merge_get', only_next, merge_next, upTo_self, upTo_one, merge_only, touch, wrote, isIn, okRec, hits, capsOf, xcaps, stripL, AVal.strip, freeL, AVal.free, fillR, chunks, mkV]
end
end Go.Proofs.Ytgijgcmcpgepaaa.Eng

/-
  DISPATCH: reserves of plans.
-/
namespace Go.Proofs.Ytgijgcmcpgepaaa.Eng
set_option linter.unusedSimpArgs false
set_option linter.unusedVariables false
def rvV (p : AVal) (m : Int) : AVal := .agg [p, .int .i64 m]
theorem rvV_fr {p : AVal} {m : Int} (h : p.free = true ∧ p.strip = p) : (rvV p m).free = true ∧ (rvV p m).strip = rvV p m := by
  simp [rvV, AVal.free, freeL, AVal.strip, stripL, h]
/-- The errors of a plan and a mode in reserve, for a valid task. -/
def rvE (lo hi : Int) (R : List Md) (t : Tk) (H : List Hour) (P : List Int) (m : Int) : Int := if pE lo hi R t H P = 0 then ixE m R.length else pE lo hi R t H P
/-- For how many hours the mode can be given, hour by hour. -/
def rsL (lo hi : Int) (R : List Md) (t : Tk) (H : List Hour) (P : List Int) (k n : Nat) : List Int := (List.range n).map fun i => (gv lo hi (R.getD k md0).ch H (vS R t H P i) i : Int)
theorem rsL_succ (lo hi : Int) (R : List Md) (t : Tk) (H : List Hour) (P : List Int) (k n : Nat) : rsL lo hi R t H P k (n + 1) = rsL lo hi R t H P k n ++ [(gv lo hi (R.getD k md0).ch H (vS R t H P n) n : Int)] := by simp [rsL, List.range_succ]
theorem rsL_len (lo hi : Int) (R : List Md) (t : Tk) (H : List Hour) (P : List Int) (k n : Nat) : (rsL lo hi R t H P k n).length = n := by simp [rsL]
section
variable {X : FuncId → Option XFunc} (hX : DxDCode X)
include hX
set_option maxHeartbeats 4000000 in
theorem w39 (lo hi : Int) (t : Tk) {R : List Md} {H : List Hour} {P : List Int} {v w p : AVal} (h : LIn R H P v w p) (ht : TIn lo hi R t H) (m : Int) (σ : Store) : Run X (.call 39) [plV lo hi v, tkV t w, rvV p m] σ = some (.ret, [.int .i64 (rvE lo hi R t H P m)], σ) := by
  have f1 := h.v.free Md.fr
  have f2 := h.w.free Hour.fr
  have f6 := h.p.free
  have f3 := plV_fr (lo := lo) (hi := hi) f1
  have f4 := tkV_fr (t := t) f2
  have f5 := rvV_fr (m := m) f6
  have rn := h.rn
  have u := w25 hX.dxC lo hi t h ht
  have u2 := w33 hX.dxC.dxB.dxA
  refine call3 (a := plV lo hi v) (b := tkV t w) (c := rvV p m) (v := .int .i64 (rvE lo hi R t H P m)) hX.h39 (by rw [f3.2]; exact f3.1) (by rw [f4.2]; exact f4.1) (by rw [f5.2]; exact f5.1) (by decide) (fun tm hl h0 h1 h2 => ?_) rfl σ
  rw [f3.2] at h0
  rw [f4.2] at h1
  rw [f5.2] at h2
  unfold plV at h0 u
  unfold tkV at h1 u
  unfold rvV at h2
  replace hl : tm.length = 24 := hl
  obtain ⟨k1, k2⟩ := h.v.len
  have g3 := h.p.one
  have pc := h.p.cells
  have hw1 : IntKind.i64.wrap ((R.length : Int) - 1) = (R.length : Int) - 1 := by have := ht.m0; have := ht.m1; rw [wrap_i64] <;> omega
  unfold Gives rvE ixE
  by_cases c1 : pE lo hi R t H P = 0
  · rw [if_pos c1]
    rw [c1] at u
    by_cases c2 : 0 ≤ m ∧ m < R.length
    · have e : win m 0 ((R.length : Int) - 1) = true := by rw [win_iff]; omega
      rw [if_pos c2]
      simp [xf39, hl, h0, h1, h2, u, u2, f1, f2, f6, k1, k2, g3, pc, hw1, e, cells_agg, cells_int, xload, Store.empty, Store.new, Store.put, Store.get, look, putL, setR, Store.only, Store.merge, touch, wrote, upTo, isIn, okRec, hits, capsOf, xcaps, stripL, AVal.strip, freeL, AVal.free, fillR, chunks, mkV, List.filter, -AVal.cells]
    · have e : win m 0 ((R.length : Int) - 1) = false := by
        cases hq : win m 0 ((R.length : Int) - 1) with
        | false => rfl
        | true => rw [win_iff] at hq; omega
      rw [if_neg c2]
      simp [xf39, hl, h0, h1, h2, u, u2, f1, f2, f6, k1, k2, g3, pc, hw1, e, cells_agg, cells_int, xload, Store.empty, Store.new, Store.put, Store.get, look, putL, setR, Store.only, Store.merge, touch, wrote, upTo, isIn, okRec, hits, capsOf, xcaps, stripL, AVal.strip, freeL, AVal.free, fillR, chunks, mkV, List.filter, -AVal.cells]
  · rw [if_neg c1]
    simp [xf39, hl, h0, h1, h2, u, u2, f1, f2, f6, k1, k2, g3, pc, hw1, c1, cells_agg, cells_int, xload, Store.empty, Store.new, Store.put, Store.get, look, putL, setR, Store.only, Store.merge, touch, wrote, upTo, isIn, okRec, hits, capsOf, xcaps, stripL, AVal.strip, freeL, AVal.free, fillR, chunks, mkV, List.filter, -AVal.cells]
theorem w37 {P : List Int} {p : AVal} (h : IntV P p) (hn : P.length ≤ 1000000) (m : Int) (σ : Store) : Run X (.call 37) [rvV p m] σ = some (.ret, [rvV (.list 1 (ints P) none) m], σ) := by
  have f6 := h.free
  have f5 := rvV_fr (m := m) f6
  have fi := ints_fr P
  have hv : rvV (.list 1 (ints P) none) m = (rvV (.list 1 (ints P) none) m).strip := by simp [rvV, AVal.strip, stripL, freeL_strip fi]
  rw [hv]
  have u := w20 hX.dxC.dxB.dxA h hn
  refine call1 (a := rvV p m) (v := rvV (.list 1 (ints P) none) m) hX.h37 (by rw [f5.2]; exact f5.1) (by decide) (fun tm hl h0 => ?_) (by simp [rvV, AVal.strip, stripL, freeL_strip fi, AVal.free, freeL, fi]) σ
  rw [f5.2] at h0
  unfold rvV at *
  replace hl : tm.length = 8 := hl
  have g3 := h.one
  have pc := h.cells
  unfold Gives
  have pl : ∀ c : List AVal, (AVal.list 1 c none).cells = [AVal.list 1 c none] := fun _ => rfl
  have po : ∀ c : List AVal, (AVal.list 1 c none).one = true := fun _ => rfl
  simp [xf37, hl, h0, u, f6, g3, pc, fi, pl, po, cells_agg, cells_int, setR, fillR, chunks, mkV, xload, Store.empty, Store.new, Store.put, Store.get, look, putL, setR, Store.only, Store.merge, touch, wrote, upTo, isIn, okRec, hits, capsOf, xcaps, stripL, AVal.strip, freeL, AVal.free, fillR, chunks, mkV, List.filter, -AVal.cells]
end
end Go.Proofs.Ytgijgcmcpgepaaa.Eng

/-
  DISPATCH: reserves, hour by hour.
-/
namespace Go.Proofs.Ytgijgcmcpgepaaa.Eng
set_option linter.unusedSimpArgs false
set_option linter.unusedVariables false
theorem vS_far {lo hi : Int} {R : List Md} {t : Tk} {H : List Hour} (h : TIn lo hi R t H) (P : List Int) {i : Nat} (hi' : i ≤ H.length) : -200000 ≤ vS R t H P i ∧ vS R t H P i ≤ 1200000 := by
  have b := vS_in h P i
  have n := h.hn
  omega
theorem ixE_ok {m : Int} {n : Nat} (h : ixE m n = 0) : ∃ k : Nat, m = (k : Int) ∧ k < n := by
  unfold ixE at h
  by_cases c : 0 ≤ m ∧ m < n
  · exact ⟨m.toNat, by omega, by omega⟩
  · rw [if_neg c] at h; omega
section
variable {X : FuncId → Option XFunc} (hX : DxDCode X)
include hX
omit hX in
def I36 (lo hi : Int) (v : AVal) (R : List Md) (t : Tk) (H : List Hour) (w : AVal) (P : List Int) (p q : AVal) (k i : Nat) (tm : List AVal) (σ : Store) : Prop :=
  tm.length = 57 ∧ XOpd.eval tm (.t 5) = .ptr 2 0 ∧ XOpd.eval tm (.t 8) = .ptr 3 0 ∧ XOpd.eval tm (.t 11) = q ∧ XOpd.eval tm (.t 38) = .int .i64 H.length ∧ XOpd.eval tm (.t 39) = .int .i64 i ∧ σ.get 2 = some (.cells [p, .int .i64 k]) ∧ σ.get 3 = some (.cells (plCells lo hi v t w p)) ∧ 4 ≤ σ.next ∧ OutG 3 1 σ 4 (ints (rsL lo hi R t H P k i)) (XOpd.eval tm (.t 12))
set_option maxHeartbeats 8000000 in
theorem round36 {lo hi : Int} {R : List Md} {v : AVal} (hv : LV 4 Md.enc R v) {t : Tk} {H : List Hour} {w : AVal} (hw : LV 3 Hour.enc H w) {P : List Int} {p q : AVal} (hp : IntV P p) (hq : IntV (vL R t H P P.length) q) (ht : TIn lo hi R t H) (hP : PIn R H P) {k : Nat} (hk : k < R.length) (i : Nat) (hi' : i < H.length) (tm : List AVal) (σ : Store) (hI : I36 lo hi v R t H w P p q k i tm σ) : Ends (Run X (.code xf36l0) tm σ) .normal (I36 lo hi v R t H w P p q k (i + 1)) := by
  obtain ⟨hl, h5, h8, h11, h38, h39, g2, g3, nx, ho⟩ := hI
  have hnn := ht.hn
  have hPn := hP.n
  have hiw : IntKind.i64.wrap ((i : Int) + 1) = ((i + 1 : Nat) : Int) := by rw [wrap_i64] <;> omega
  have u := w98 hX hv hw ht hk (vS_far ht P (i := i) (by omega)) (i := i) (by omega)
  have eF : ints (rsL lo hi R t H P k (i + 1)) = ints (rsL lo hi R t H P k i) ++ [.int .i64 (gv lo hi (R.getD k md0).ch H (vS R t H P i) i)] := by rw [rsL_succ, ints_app]
  have lV := ints_len (vL R t H P P.length)
  rw [vL_len] at lV
  have gV : ∀ h, (ints (vL R t H P P.length))[i]'h = .int .i64 (vS R t H P i) := fun h => by
    have e := vL_get R t H P (n := P.length) (i := i) (by omega)
    have hk3 : i < (vL R t H P P.length).length := by rw [vL_len]; omega
    have e' : (vL R t H P P.length)[i] = vS R t H P i := by simpa [hk3] using e
    simp [ints, e']
  have hqq : q = .list 1 (ints (vL R t H P P.length)) none := hq.ne (by intro e; have := vL_len R t H P P.length; rw [e] at this; simp at this)
  have hlen := ints_len (rsL lo hi R t H P k i)
  rw [rsL_len] at hlen
  have f1 := hv.free Md.fr
  have f2 := hw.free Hour.fr
  unfold ptV at u
  unfold I36
  rw [eF]
  rw [hqq] at h11 ⊢
  unfold plCells at *
  generalize vS R t H P i = x0 at *
  generalize ints (vL R t H P P.length) = V at *
  generalize ints (rsL lo hi R t H P k i) = O at *
  generalize gv lo hi (R.getD k md0).ch H x0 i = y at *
  generalize hvo : XOpd.eval tm (.t 12) = vo at *
  have i2 : i < V.length := by omega
  have gQ : V[i]? = some (.int .i64 x0) := by rw [List.getElem?_eq_getElem i2, gV]
  rcases ho with ⟨rfl, hO⟩ | ⟨j, j1, j2, rfl, j4, _⟩
  · subst hO
    obtain ⟨n, hN⟩ : ∃ n, σ.next = n + 4 := ⟨σ.next - 4, by omega⟩
    have e : Ends (Run X (.code xf36l0) tm σ) .normal fun tm' σ' => tm'.length = 57 ∧ XOpd.eval tm' (.t 5) = .ptr 2 0 ∧ XOpd.eval tm' (.t 8) = .ptr 3 0 ∧ XOpd.eval tm' (.t 11) = .list 1 V none ∧ XOpd.eval tm' (.t 38) = .int .i64 H.length ∧ XOpd.eval tm' (.t 39) = .int .i64 ((i + 1 : Nat) : Int) ∧ XOpd.eval tm' (.t 12) = .list 1 [.int .i64 y] (some (n + 5)) ∧ σ'.get (n + 5) = some (.tok 3 1 1) ∧ σ'.next = n + 6 ∧ σ'.get 2 = some (.cells [p, .int .i64 k]) ∧ σ'.get 3 = some (.cells [.int .i64 lo, .int .i64 hi, v, .int .i64 t.vol, .int .i64 t.mode, .int .i64 t.worth, w, p]) := by
      simp [xf36l0, hl, h5, h8, h11, h38, h39, hvo, hN, g2, g3, hi', gQ, u, f1, f2, hiw, xappend, AVal.isSlice, ones, xload, AVal.cells, AVal.one, put_next, new_next, Store.get_new, Store.get_put, put_get, setR, only_get, merge_get', only_next, merge_next, upTo_self, upTo_one, merge_only, touch, wrote, isIn, okRec, hits, capsOf, xcaps, stripL, AVal.strip, freeL, AVal.free, fillR, chunks, mkV]
    obtain ⟨o1, p1, p2, p3, p4, p5, p6, p7, p8, p9, p10, p11⟩ := out_of e
    exact ⟨_, _, o1, p1, p2, p3, p4, p5, p6, p10, p11, by omega, .inr ⟨n + 5, by omega, by omega, p7, p8, by simp⟩⟩
  · obtain ⟨N, hN⟩ : ∃ N, σ.next = j + N + 1 := ⟨σ.next - j - 1, by omega⟩
    have z1 : ¬ j = 2 := by omega
    have z2 : ¬ 2 = j := by omega
    have z3 : ¬ j = j + N + 1 := by omega
    have z4 : ¬ j + N + 1 = j := by omega
    have z5 : ¬ j = 3 := by omega
    have z6 : ¬ 3 = j := by omega
    have z7 : ¬ 2 = j + N + 1 := by omega
    have z8 : ¬ 3 = j + N + 1 := by omega
    have z9 : ¬ j + N + 1 = 2 := by omega
    have z10 : ¬ j + N + 1 = 3 := by omega
    have b1 : (i + 1) * 8 ≤ 1000000000000 := by omega
    have b2 : i + 1 ≤ 1000000000000 := by omega
    have e : Ends (Run X (.code xf36l0) tm σ) .normal fun tm' σ' => tm'.length = 57 ∧ XOpd.eval tm' (.t 5) = .ptr 2 0 ∧ XOpd.eval tm' (.t 8) = .ptr 3 0 ∧ XOpd.eval tm' (.t 11) = .list 1 V none ∧ XOpd.eval tm' (.t 38) = .int .i64 H.length ∧ XOpd.eval tm' (.t 39) = .int .i64 ((i + 1 : Nat) : Int) ∧ XOpd.eval tm' (.t 12) = .list 1 (O ++ [.int .i64 y]) (some j) ∧ σ'.get j = some (.tok 3 1 (i + 1)) ∧ σ'.next = j + N + 2 ∧ σ'.get 2 = some (.cells [p, .int .i64 k]) ∧ σ'.get 3 = some (.cells [.int .i64 lo, .int .i64 hi, v, .int .i64 t.vol, .int .i64 t.mode, .int .i64 t.worth, w, p]) := by
      simp [xf36l0, hl, h5, h8, h11, h38, h39, hvo, hN, g2, g3, j4, hlen, hi', gQ, u, f1, f2, hiw, z1, z2, z3, z4, z5, z6, z7, z8, z9, z10, b1, b2, xappend, ones, xload, AVal.cells, AVal.one, put_next, new_next, Store.get_new, Store.get_put, put_get, setR, only_get, merge_get', only_next, merge_next, upTo_self, upTo_one, merge_only, touch, wrote, isIn, okRec, hits, capsOf, xcaps, stripL, AVal.strip, freeL, AVal.free, fillR, chunks, mkV]
    obtain ⟨o1, p1, p2, p3, p4, p5, p6, p7, p8, p9, p10, p11⟩ := out_of e
    exact ⟨_, _, o1, p1, p2, p3, p4, p5, p6, p10, p11, by omega, .inr ⟨j, j1, by omega, p7, by rw [p8, List.length_append, hlen]; rfl, by simp⟩⟩
end
end Go.Proofs.Ytgijgcmcpgepaaa.Eng

/-
  DISPATCH: reserves, whole.
-/
namespace Go.Proofs.Ytgijgcmcpgepaaa.Eng
set_option linter.unusedSimpArgs false
set_option linter.unusedVariables false
/-- The error of a reserve. -/
def roE (lo hi : Int) (R : List Md) (t : Tk) (H : List Hour) (P : List Int) (m : Int) : Int := firstNZ [teE lo hi R t H P, ixE m R.length]
section
variable {X : FuncId → Option XFunc} (hX : DxDCode X)
include hX
set_option maxHeartbeats 8000000 in
theorem w36bad (lo hi : Int) (t : Tk) {R : List Md} {H : List Hour} {P : List Int} {v w p : AVal} (h : LIn R H P v w p) (m : Int) (he : roE lo hi R t H P m ≠ 0) (σ : Store) : Run X (.call 36) [plV lo hi v, tkV t w, rvV p m] σ = some (.ret, [.tup [.nils, .int .i64 (roE lo hi R t H P m)]], σ) := by
  have f1 := h.v.free Md.fr
  have f2 := h.w.free Hour.fr
  have f6 := h.p.free
  have f3 := plV_fr (lo := lo) (hi := hi) f1
  have f4 := tkV_fr (t := t) f2
  have f5 := rvV_fr (m := m) f6
  have u := w80 hX.dxC lo hi t h
  have u2 := w77 hX.dxC.dxB m R.length
  have u3 := first2 hX.dxC.dxB.dxA (teE lo hi R t H P) (ixE m R.length)
  obtain ⟨k1, k2⟩ := h.v.len
  have g1 := h.v.one
  have g2 := h.w.one
  have g3 := h.p.one
  have pc := h.p.cells
  refine call3 (a := plV lo hi v) (b := tkV t w) (c := rvV p m) (v := .tup [.nils, .int .i64 (roE lo hi R t H P m)]) hX.h36 (by rw [f3.2]; exact f3.1) (by rw [f4.2]; exact f4.1) (by rw [f5.2]; exact f5.1) (by decide) (fun tm hl h0 h1 h2 => ?_) rfl σ
  rw [f3.2] at h0
  rw [f4.2] at h1
  rw [f5.2] at h2
  unfold plV at h0 u
  unfold tkV at h1 u
  unfold rvV at h2
  unfold roE at he ⊢
  generalize firstNZ [teE lo hi R t H P, ixE m R.length] = E at *
  replace hl : tm.length = 57 := hl
  unfold Gives
  by_cases c : teE lo hi R t H P = 0
  · rw [if_pos c] at u
    unfold plnV at u
    simp [xf36, hl, h0, h1, h2, u, u2, u3, f1, f2, f6, k1, k2, g1, g2, g3, pc, he, cells_agg, cells_int, fillR, xload, xresult, xrets, xret_t, Store.empty, Store.new, Store.put, Store.get, look, putL, setR, Store.only, Store.merge, touch, wrote, upTo, isIn, okRec, hits, capsOf, xcaps, stripL, AVal.strip, freeL, AVal.free, fillR, chunks, mkV, List.filter, -AVal.cells]
  · rw [if_neg c] at u
    unfold pln0 at u
    simp [xf36, hl, h0, h1, h2, u, u2, u3, f1, f2, f6, k1, k2, g1, g2, g3, pc, he, cells_agg, cells_int, fillR, xload, xresult, xrets, xret_t, Store.empty, Store.new, Store.put, Store.get, look, putL, setR, Store.only, Store.merge, touch, wrote, upTo, isIn, okRec, hits, capsOf, xcaps, stripL, AVal.strip, freeL, AVal.free, fillR, chunks, mkV, List.filter, -AVal.cells]
set_option maxHeartbeats 8000000 in
theorem w36 (lo hi : Int) (t : Tk) {R : List Md} {H : List Hour} {P : List Int} {v w p : AVal} (h : LIn R H P v w p) (he : teE lo hi R t H P = 0) {k : Nat} (hk : k < R.length) : ∃ q, IntV (rsL lo hi R t H P k H.length) q ∧ ∀ σ, Run X (.call 36) [plV lo hi v, tkV t w, rvV p k] σ = some (.ret, [.tup [q, .int .i64 0]], σ) := by
  have f1 := h.v.free Md.fr
  have f2 := h.w.free Hour.fr
  have f6 := h.p.free
  have f3 := plV_fr (lo := lo) (hi := hi) f1
  have f4 := tkV_fr (t := t) f2
  have f5 := rvV_fr (m := (k : Int)) f6
  have u := w80 hX.dxC lo hi t h
  rw [if_pos he, he] at u
  have u2 := w77 hX.dxC.dxB (k : Int) R.length
  have ek : ixE (k : Int) R.length = 0 := by unfold ixE; rw [if_pos (by omega)]
  rw [ek] at u2
  have u3 := first2 hX.dxC.dxB.dxA 0 0
  have e0 : firstNZ [(0 : Int), 0] = 0 := by simp [firstNZ]
  rw [e0] at u3
  obtain ⟨ht, hP⟩ := teE_in he
  obtain ⟨q0, hq0, u4⟩ := w81 hX.dxC h.v h.w (lo := lo) (hi := hi) h.p ht hP
  have f7 := hq0.free
  obtain ⟨k1, k2⟩ := h.v.len
  obtain ⟨k3, k4⟩ := h.w.len
  have g1 := h.v.one
  have g2 := h.w.one
  have g3 := h.p.one
  have pc := h.p.cells
  obtain ⟨q, hq, hr⟩ : ∃ q, (∃ q', q = .tup [q', .int .i64 0] ∧ IntV (rsL lo hi R t H P k H.length) q') ∧ ∀ σ, Run X (.call 36) [plV lo hi v, tkV t w, rvV p k] σ = some (.ret, [q], σ) := by
    refine call3E (X := X) (a := plV lo hi v) (b := tkV t w) (c := rvV p k) hX.h36 (by rw [f3.2]; exact f3.1) (by rw [f4.2]; exact f4.1) (by rw [f5.2]; exact f5.1) (by decide) (fun tm hl h0 h1 h2 => ?_)
    rw [f3.2] at h0
    rw [f4.2] at h1
    rw [f5.2] at h2
    unfold plV at h0 u
    unfold tkV at h1 u
    unfold rvV at h2
    unfold plnV at u u4
    replace hl : tm.length = 57 := hl
    have eP : Ends (Run X (.code (XCode.cutP 5 xf36.body)) tm Store.empty) .normal (I36 lo hi v R t H w P p q0 k 0) := by
      unfold I36 plCells
      simp [xf36, XCode.cutP, hl, h0, h1, h2, u, u2, u3, u4, f1, f2, f6, f7, k1, k2, k3, k4, g1, g2, g3, pc, cells_agg, cells_int, fillR, xload, xresult, xrets, xret_t, Store.empty, Store.new, Store.put, Store.get, look, putL, setR, Store.only, Store.merge, touch, wrote, upTo, isIn, okRec, hits, capsOf, xcaps, stripL, AVal.strip, freeL, AVal.free, fillR, chunks, mkV, List.filter, -AVal.cells]
      exact .inl ⟨rfl, by simp [rsL, ints]⟩
    obtain ⟨o1, o2⟩ := out_of eP
    have lp : Ends (Run X (.code (.loop xf36l0)) (outT X (XCode.cutP 5 xf36.body) tm Store.empty) (outS X (XCode.cutP 5 xf36.body) tm Store.empty)) (.exit 0) (I36 lo hi v R t H w P p q0 k H.length) := by
      refine loop_all H.length (I36 lo hi v R t H w P p q0 k) (by simp) (fun i tm σ hi' h' => round36 hX h.v h.w h.p hq0 ht hP hk i hi' tm σ h') (fun tm σ h' => ?_) _ _ o2
      obtain ⟨hl, h5, h8, h11, h38, h39, hs⟩ := h'
      unfold I36
      simp [xf36l0, hl, h5, h8, h11, h38, h39]
      exact hs
    obtain ⟨q1, q2, q3, q4, q5, q6, q7, q8, q9, q10, q11⟩ := out_of lp
    unfold GivesE
    rw [Run_cut 5, o1, thenC_normal, show XCode.cutB 5 xf36.body = .block 0 (.loop xf36l0) from rfl, Run_block, q1, blockC_exit]
    generalize outT X (.loop xf36l0) _ _ = tm3 at *
    generalize outS X (.loop xf36l0) _ _ = σ3 at *
    obtain ⟨m1, m2⟩ := q11.ints
    generalize hw9 : XOpd.eval tm3 (.t 12) = w9 at m1 m2
    simp [xf36, XCode.cutR, q2, hw9, xresult, xrets, xret_t]
    exact ⟨by simp [AVal.free, freeL, AVal.strip, stripL, m2], _, by simp [AVal.strip, stripL], m1⟩
  obtain ⟨q', rfl, hq'⟩ := hq
  exact ⟨q', hq', hr⟩
end
end Go.Proofs.Ytgijgcmcpgepaaa.Eng

/-
  DISPATCH: reserves by the reference; what is promised.
-/
namespace Go.Proofs.Ytgijgcmcpgepaaa.Eng
set_option linter.unusedSimpArgs false
set_option linter.unusedVariables false
/-- What is promised, by so many hours. -/
def prF (L : List Int) : Nat → Int
  | 0 => 10
  | i + 1 => if (i : Int) + L.getD i 0 < L.length then imin (prF L i) (L.getD i 0) else prF L i
section
variable {X : FuncId → Option XFunc} (hX : DxDCode X)
include hX
omit hX in
def I40 (lo hi : Int) (v : AVal) (R : List Md) (t : Tk) (H : List Hour) (w : AVal) (P : List Int) (p q : AVal) (k i : Nat) (tm : List AVal) (σ : Store) : Prop :=
  tm.length = 36 ∧ XOpd.eval tm (.t 3) = .ptr 0 0 ∧ XOpd.eval tm (.t 4) = .ptr 1 0 ∧ XOpd.eval tm (.t 5) = .ptr 2 0 ∧ XOpd.eval tm (.t 7) = q ∧ XOpd.eval tm (.t 9) = .int .i64 i ∧ σ.get 0 = some (.cells [.int .i64 lo, .int .i64 hi, v]) ∧ σ.get 1 = some (.cells [.int .i64 t.vol, .int .i64 t.mode, .int .i64 t.worth, w]) ∧ σ.get 2 = some (.cells [p, .int .i64 k]) ∧ 3 ≤ σ.next ∧ OutG 3 1 σ 3 (ints (rsL lo hi R t H P k i)) (XOpd.eval tm (.t 8))
set_option maxHeartbeats 8000000 in
theorem round40 {lo hi : Int} {R : List Md} {v : AVal} (hv : LV 4 Md.enc R v) {t : Tk} {H : List Hour} {w : AVal} (hw : LV 3 Hour.enc H w) {P : List Int} {p q : AVal} (hp : IntV P p) (hq : IntV (vL R t H P P.length) q) (ht : TIn lo hi R t H) (hP : PIn R H P) {k : Nat} (hk : k < R.length) (i : Nat) (hi' : i < H.length) (tm : List AVal) (σ : Store) (hI : I40 lo hi v R t H w P p q k i tm σ) : Ends (Run X (.code xf40l0) tm σ) .normal (I40 lo hi v R t H w P p q k (i + 1)) := by
  obtain ⟨hl, h3, h4, h5, h7, h9, g0, g1, g2, nx, ho⟩ := hI
  have hnn := ht.hn
  have hPn := hP.n
  have hiw : IntKind.i64.wrap ((i : Int) + 1) = ((i + 1 : Nat) : Int) := by rw [wrap_i64] <;> omega
  have u := w99 hX hv hw ht hk (vS_far ht P (i := i) (by omega)) (i := i) (by omega)
  have eF : ints (rsL lo hi R t H P k (i + 1)) = ints (rsL lo hi R t H P k i) ++ [.int .i64 (gv lo hi (R.getD k md0).ch H (vS R t H P i) i)] := by rw [rsL_succ, ints_app]
  have lV := ints_len (vL R t H P P.length)
  rw [vL_len] at lV
  have gV : ∀ h, (ints (vL R t H P P.length))[i]'h = .int .i64 (vS R t H P i) := fun h => by
    have e := vL_get R t H P (n := P.length) (i := i) (by omega)
    have hk3 : i < (vL R t H P P.length).length := by rw [vL_len]; omega
    have e' : (vL R t H P P.length)[i] = vS R t H P i := by simpa [hk3] using e
    simp [ints, e']
  have hqq : q = .list 1 (ints (vL R t H P P.length)) none := hq.ne (by intro e; have := vL_len R t H P P.length; rw [e] at this; simp at this)
  have hlen := ints_len (rsL lo hi R t H P k i)
  rw [rsL_len] at hlen
  have f1 := hv.free Md.fr
  have f2 := hw.free Hour.fr
  obtain ⟨l1, l2⟩ := hw.len
  unfold plV tkV at u
  unfold I40
  rw [eF]
  rw [hqq] at h7 ⊢
  generalize vS R t H P i = x0 at *
  generalize ints (vL R t H P P.length) = V at *
  generalize ints (rsL lo hi R t H P k i) = O at *
  generalize gv lo hi (R.getD k md0).ch H x0 i = y at *
  generalize hvo : XOpd.eval tm (.t 8) = vo at *
  have i2 : i < V.length := by omega
  have gQ : V[i]? = some (.int .i64 x0) := by rw [List.getElem?_eq_getElem i2, gV]
  rcases ho with ⟨rfl, hO⟩ | ⟨j, j1, j2, rfl, j4, _⟩
  · subst hO
    obtain ⟨n, hN⟩ : ∃ n, σ.next = n + 3 := ⟨σ.next - 3, by omega⟩
    have e : Ends (Run X (.code xf40l0) tm σ) .normal fun tm' σ' => tm'.length = 36 ∧ XOpd.eval tm' (.t 3) = .ptr 0 0 ∧ XOpd.eval tm' (.t 4) = .ptr 1 0 ∧ XOpd.eval tm' (.t 5) = .ptr 2 0 ∧ XOpd.eval tm' (.t 7) = .list 1 V none ∧ XOpd.eval tm' (.t 9) = .int .i64 ((i + 1 : Nat) : Int) ∧ XOpd.eval tm' (.t 8) = .list 1 [.int .i64 y] (some (n + 4)) ∧ σ'.get (n + 4) = some (.tok 3 1 1) ∧ σ'.next = n + 5 ∧ σ'.get 0 = some (.cells [.int .i64 lo, .int .i64 hi, v]) ∧ σ'.get 1 = some (.cells [.int .i64 t.vol, .int .i64 t.mode, .int .i64 t.worth, w]) ∧ σ'.get 2 = some (.cells [p, .int .i64 k]) := by
      simp [xf40l0, hl, h3, h4, h5, h7, h9, hvo, hN, g0, g1, g2, l1, l2, hi', gQ, u, f1, f2, hiw, xappend, AVal.isSlice, ones, xload, AVal.one, put_next, new_next, Store.get_new, Store.get_put, put_get, setR, only_get, merge_get', only_next, merge_next, upTo_self, upTo_one, merge_only, touch, wrote, isIn, okRec, hits, capsOf, xcaps, stripL, AVal.strip, freeL, AVal.free, fillR, chunks, mkV]
    obtain ⟨o1, p1, p2, p3, p4, p5, p6, p7, p8, p9, p10, p11, p12⟩ := out_of e
    exact ⟨_, _, o1, p1, p2, p3, p4, p5, p6, p10, p11, p12, by omega, .inr ⟨n + 4, by omega, by omega, p7, p8, by simp⟩⟩
  · obtain ⟨N, hN⟩ : ∃ N, σ.next = j + N + 1 := ⟨σ.next - j - 1, by omega⟩
    have z1 : ¬ j = 2 := by omega
    have z2 : ¬ 2 = j := by omega
    have z3 : ¬ j = j + N + 1 := by omega
    have z4 : ¬ j + N + 1 = j := by omega
    have z5 : ¬ j = 1 := by omega
    have z6 : ¬ 1 = j := by omega
    have z7 : ¬ 2 = j + N + 1 := by omega
    have z8 : ¬ 1 = j + N + 1 := by omega
    have z9 : ¬ j + N + 1 = 2 := by omega
    have z10 : ¬ j + N + 1 = 1 := by omega
    have z11 : ¬ j = 0 := by omega
    have z12 : ¬ 0 = j := by omega
    have z13 : ¬ j + N = 0 := by omega
    have z14 : ¬ 1 = j + N := by omega
    have b1 : (i + 1) * 8 ≤ 1000000000000 := by omega
    have b2 : i + 1 ≤ 1000000000000 := by omega
    have e : Ends (Run X (.code xf40l0) tm σ) .normal fun tm' σ' => tm'.length = 36 ∧ XOpd.eval tm' (.t 3) = .ptr 0 0 ∧ XOpd.eval tm' (.t 4) = .ptr 1 0 ∧ XOpd.eval tm' (.t 5) = .ptr 2 0 ∧ XOpd.eval tm' (.t 7) = .list 1 V none ∧ XOpd.eval tm' (.t 9) = .int .i64 ((i + 1 : Nat) : Int) ∧ XOpd.eval tm' (.t 8) = .list 1 (O ++ [.int .i64 y]) (some j) ∧ σ'.get j = some (.tok 3 1 (i + 1)) ∧ σ'.next = j + N + 2 ∧ σ'.get 0 = some (.cells [.int .i64 lo, .int .i64 hi, v]) ∧ σ'.get 1 = some (.cells [.int .i64 t.vol, .int .i64 t.mode, .int .i64 t.worth, w]) ∧ σ'.get 2 = some (.cells [p, .int .i64 k]) := by
      simp [xf40l0, hl, h3, h4, h5, h7, h9, hvo, hN, g0, g1, g2, l1, l2, j4, hlen, hi', gQ, u, f1, f2, hiw, z1, z2, z3, z4, z5, z6, z7, z8, z9, z10, z11, z12, z13, z14, b1, b2, xappend, ones, xload, AVal.one, put_next, new_next, Store.get_new, Store.get_put, put_get, setR, only_get, merge_get', only_next, merge_next, upTo_self, upTo_one, merge_only, touch, wrote, isIn, okRec, hits, capsOf, xcaps, stripL, AVal.strip, freeL, AVal.free, fillR, chunks, mkV]
    obtain ⟨o1, p1, p2, p3, p4, p5, p6, p7, p8, p9, p10, p11, p12⟩ := out_of e
    exact ⟨_, _, o1, p1, p2, p3, p4, p5, p6, p10, p11, p12, by omega, .inr ⟨j, j1, by omega, p7, by rw [p8, List.length_append, hlen]; rfl, by simp⟩⟩
end
end Go.Proofs.Ytgijgcmcpgepaaa.Eng

/-
  DISPATCH: what is promised.
-/
namespace Go.Proofs.Ytgijgcmcpgepaaa.Eng
set_option linter.unusedSimpArgs false
set_option linter.unusedVariables false
section
variable {X : FuncId → Option XFunc} (hX : DxDCode X)
include hX
set_option maxHeartbeats 8000000 in
theorem w40 (lo hi : Int) (t : Tk) {R : List Md} {H : List Hour} {P : List Int} {v w p : AVal} (h : LIn R H P v w p) (he : teE lo hi R t H P = 0) {k : Nat} (hk : k < R.length) : ∃ q, IntV (rsL lo hi R t H P k H.length) q ∧ ∀ σ, Run X (.call 40) [plV lo hi v, tkV t w, rvV p k] σ = some (.ret, [q], σ) := by
  have f1 := h.v.free Md.fr
  have f2 := h.w.free Hour.fr
  have f6 := h.p.free
  have f3 := plV_fr (lo := lo) (hi := hi) f1
  have f4 := tkV_fr (t := t) f2
  have f5 := rvV_fr (m := (k : Int)) f6
  obtain ⟨ht, hP⟩ := teE_in he
  obtain ⟨q0, hq0, u4⟩ := w27 hX.dxC h.v h.w (lo := lo) (hi := hi) h.p ht hP
  have f7 := hq0.free
  obtain ⟨k1, k2⟩ := h.v.len
  obtain ⟨k3, k4⟩ := h.w.len
  have g1 := h.v.one
  have g2 := h.w.one
  have g3 := h.p.one
  have pc := h.p.cells
  refine call3E (X := X) (a := plV lo hi v) (b := tkV t w) (c := rvV p k) (Φ := fun q => IntV (rsL lo hi R t H P k H.length) q) hX.h40 (by rw [f3.2]; exact f3.1) (by rw [f4.2]; exact f4.1) (by rw [f5.2]; exact f5.1) (by decide) (fun tm hl h0 h1 h2 => ?_)
  rw [f3.2] at h0
  rw [f4.2] at h1
  rw [f5.2] at h2
  unfold plV at h0 u4
  unfold tkV at h1 u4
  unfold rvV at h2
  replace hl : tm.length = 36 := hl
  have eP : Ends (Run X (.code (XCode.cutP 3 xf40.body)) tm Store.empty) .normal (I40 lo hi v R t H w P p q0 k 0) := by
    unfold I40
    simp [xf40, XCode.cutP, hl, h0, h1, h2, u4, f1, f2, f6, f7, k1, k2, k3, k4, g1, g2, g3, pc, cells_agg, cells_int, xload, Store.empty, Store.new, Store.put, Store.get, look, putL, setR, Store.only, Store.merge, touch, wrote, upTo, isIn, okRec, hits, capsOf, xcaps, stripL, AVal.strip, freeL, AVal.free, fillR, chunks, mkV, List.filter, -AVal.cells]
    exact .inl ⟨rfl, by simp [rsL, ints]⟩
  obtain ⟨o1, o2⟩ := out_of eP
  have lp : Ends (Run X (.code (.loop xf40l0)) (outT X (XCode.cutP 3 xf40.body) tm Store.empty) (outS X (XCode.cutP 3 xf40.body) tm Store.empty)) (.exit 0) (I40 lo hi v R t H w P p q0 k H.length) := by
    refine loop_all H.length (I40 lo hi v R t H w P p q0 k) (by simp) (fun i tm σ hi' h' => round40 hX h.v h.w h.p hq0 ht hP hk i hi' tm σ h') (fun tm σ h' => ?_) _ _ o2
    obtain ⟨hl, h3, h4, h5, h7, h9, g0, g1, hs⟩ := h'
    unfold I40
    simp [xf40l0, hl, h3, h4, h5, h7, h9, g0, g1, k3, k4, xload, AVal.one, put_next, new_next, Store.get_new, Store.get_put, put_get, setR, only_get, merge_get', only_next, merge_next, upTo_self, upTo_one, merge_only, touch, wrote, isIn, okRec, hits, capsOf, xcaps, stripL, AVal.strip, freeL, AVal.free, fillR, chunks, mkV]
    exact hs
  obtain ⟨q1, q2, q3, q4, q5, q6, q7, q8, q9, q10, q11, q12⟩ := out_of lp
  unfold GivesE
  rw [Run_cut 3, o1, thenC_normal, show XCode.cutB 3 xf40.body = .block 0 (.loop xf40l0) from rfl, Run_block, q1, blockC_exit]
  generalize outT X (.loop xf40l0) _ _ = tm3 at *
  generalize outS X (.loop xf40l0) _ _ = σ3 at *
  obtain ⟨m1, m2⟩ := q12.ints
  generalize hw9 : XOpd.eval tm3 (.t 8) = w9 at m1 m2
  simp [xf40, XCode.cutR, q2, hw9, xresult, xrets, xret_t]
  exact ⟨m2, m1⟩
omit hX in
def I38 (L : List Int) (q : AVal) (i : Nat) (tm : List AVal) (σ : Store) : Prop :=
  tm.length = 41 ∧ XOpd.eval tm (.t 8) = q ∧ XOpd.eval tm (.t 23) = q ∧ XOpd.eval tm (.t 24) = .int .i64 L.length ∧ XOpd.eval tm (.t 25) = .int .i64 i ∧ XOpd.eval tm (.t 10) = .int .i64 (prF L i)
omit hX in
theorem round38 {L : List Int} {q : AVal} (hq : IntV L q) (hn : L.length ≤ 10) (hL : ∀ a, a ∈ L → 0 ≤ a ∧ a ≤ 10) (i : Nat) (hi' : i < L.length) (tm : List AVal) (σ : Store) (hI : I38 L q i tm σ) : Ends (Run X (.code xf38l0) tm σ) .normal (I38 L q (i + 1)) := by
  obtain ⟨hl, h8, h23, h24, h25, h10⟩ := hI
  have hiw : IntKind.i64.wrap ((i : Int) + 1) = ((i + 1 : Nat) : Int) := by rw [wrap_i64] <;> omega
  have hqq : q = .list 1 (ints L) none := hq.ne (by intro e; simp [e] at hi')
  have hg : ∀ h, (ints L)[i]'h = .int .i64 L[i] := fun h => by simp [ints]
  have hgd : L.getD i 0 = L[i] := by simp [hi']
  have ha := hL L[i] (List.getElem_mem hi')
  have hw1 : IntKind.i64.wrap ((i : Int) + L[i]) = (i : Int) + L[i] := by rw [wrap_i64] <;> omega
  have hlen := ints_len L
  unfold I38
  rw [show prF L (i + 1) = if (i : Int) + L[i] < L.length then imin (prF L i) L[i] else prF L i from by show (if (i : Int) + L.getD i 0 < L.length then imin (prF L i) (L.getD i 0) else prF L i) = _; rw [hgd]]
  rw [hqq] at h8 h23 ⊢
  generalize prF L i = f at *
  by_cases c : (i : Int) + L[i] < L.length
  · rw [if_pos c]
    simp [xf38l0, hl, h8, h23, h24, h25, h10, hi', hg, hiw, hw1, hlen, c, xext, xmm_max, xmm_min, xload, AVal.cells, put_next, new_next, Store.get_new, Store.get_put, put_get, setR, only_get, merge_get', only_next, merge_next, upTo_self, upTo_one, merge_only, touch, wrote, isIn, okRec, hits, capsOf, xcaps, stripL, AVal.strip, freeL, AVal.free, fillR, chunks, mkV, -xmm]
  · rw [if_neg c]
    simp [xf38l0, hl, h8, h23, h24, h25, h10, hi', hg, hiw, hw1, hlen, c, xext, xmm_max, xmm_min, xload, AVal.cells, put_next, new_next, Store.get_new, Store.get_put, put_get, setR, only_get, merge_get', only_next, merge_next, upTo_self, upTo_one, merge_only, touch, wrote, isIn, okRec, hits, capsOf, xcaps, stripL, AVal.strip, freeL, AVal.free, fillR, chunks, mkV, -xmm]
omit hX in
def I41 (L : List Int) (q : AVal) (i : Nat) (tm : List AVal) (σ : Store) : Prop :=
  tm.length = 36 ∧ XOpd.eval tm (.t 8) = q ∧ XOpd.eval tm (.t 9) = .int .i64 i ∧ XOpd.eval tm (.t 7) = .int .i64 (prF L i)
omit hX in
theorem round41 {L : List Int} {q : AVal} (hq : IntV L q) (hn : L.length ≤ 10) (hL : ∀ a, a ∈ L → 0 ≤ a ∧ a ≤ 10) (i : Nat) (hi' : i < L.length) (tm : List AVal) (σ : Store) (hI : I41 L q i tm σ) : Ends (Run X (.code xf41l0) tm σ) .normal (I41 L q (i + 1)) := by
  obtain ⟨hl, h8, h9, h7⟩ := hI
  have hiw : IntKind.i64.wrap ((i : Int) + 1) = ((i + 1 : Nat) : Int) := by rw [wrap_i64] <;> omega
  have hqq : q = .list 1 (ints L) none := hq.ne (by intro e; simp [e] at hi')
  have hg : ∀ h, (ints L)[i]'h = .int .i64 L[i] := fun h => by simp [ints]
  have hgd : L.getD i 0 = L[i] := by simp [hi']
  have ha := hL L[i] (List.getElem_mem hi')
  have hw1 : IntKind.i64.wrap ((L.length : Int) - i) = (L.length : Int) - i := by rw [wrap_i64] <;> omega
  have hlen := ints_len L
  unfold I41
  rw [show prF L (i + 1) = if L[i] < (L.length : Int) - i then imin (prF L i) L[i] else prF L i from by
    show (if (i : Int) + L.getD i 0 < L.length then imin (prF L i) (L.getD i 0) else prF L i) = _
    rw [hgd]
    by_cases c : (i : Int) + L[i] < L.length
    · rw [if_pos c, if_pos (by omega)]
    · rw [if_neg c, if_neg (by omega)]]
  rw [hqq] at h8 ⊢
  generalize prF L i = f at *
  by_cases c : L[i] < (L.length : Int) - i
  · rw [if_pos c]
    simp [xf41l0, hl, h8, h9, h7, hi', hg, hiw, hw1, hlen, c, xlen, xext, xmm_max, xmm_min, xload, AVal.cells, put_next, new_next, Store.get_new, Store.get_put, put_get, setR, only_get, merge_get', only_next, merge_next, upTo_self, upTo_one, merge_only, touch, wrote, isIn, okRec, hits, capsOf, xcaps, stripL, AVal.strip, freeL, AVal.free, fillR, chunks, mkV, -xmm]
  · rw [if_neg c]
    simp [xf41l0, hl, h8, h9, h7, hi', hg, hiw, hw1, hlen, c, xlen, xext, xmm_max, xmm_min, xload, AVal.cells, put_next, new_next, Store.get_new, Store.get_put, put_get, setR, only_get, merge_get', only_next, merge_next, upTo_self, upTo_one, merge_only, touch, wrote, isIn, okRec, hits, capsOf, xcaps, stripL, AVal.strip, freeL, AVal.free, fillR, chunks, mkV, -xmm]
omit hX in
theorem rsL_in (lo hi : Int) (R : List Md) (t : Tk) {H : List Hour} (hn : H.length ≤ 10) (P : List Int) (k : Nat) : ∀ a, a ∈ rsL lo hi R t H P k H.length → 0 ≤ a ∧ a ≤ 10 := by
  intro a ha
  simp only [rsL, List.mem_map, List.mem_range] at ha
  obtain ⟨i, h1, h2⟩ := ha
  have := gv_le lo hi (R.getD k md0).ch H (vS R t H P i) i
  omega
set_option maxHeartbeats 8000000 in
theorem w41 (lo hi : Int) (t : Tk) {R : List Md} {H : List Hour} {P : List Int} {v w p : AVal} (h : LIn R H P v w p) (he : teE lo hi R t H P = 0) {k : Nat} (hk : k < R.length) (σ : Store) : Run X (.call 41) [plV lo hi v, tkV t w, rvV p k] σ = some (.ret, [.int .i64 (prF (rsL lo hi R t H P k H.length) H.length)], σ) := by
  have f1 := h.v.free Md.fr
  have f2 := h.w.free Hour.fr
  have f6 := h.p.free
  have f3 := plV_fr (lo := lo) (hi := hi) f1
  have f4 := tkV_fr (t := t) f2
  have f5 := rvV_fr (m := (k : Int)) f6
  obtain ⟨ht, hP⟩ := teE_in he
  obtain ⟨q, hq, u⟩ := w40 hX lo hi t h he hk
  have hin := rsL_in lo hi R t ht.hn P k
  have hlen := rsL_len lo hi R t H P k H.length
  have hnn := ht.hn
  have f7 := hq.free
  have g1 := h.v.one
  have g2 := h.w.one
  have g3 := h.p.one
  have pc := h.p.cells
  generalize hLL : rsL lo hi R t H P k H.length = L at *
  refine call3 (a := plV lo hi v) (b := tkV t w) (c := rvV p k) (v := .int .i64 (prF L H.length)) hX.h41 (by rw [f3.2]; exact f3.1) (by rw [f4.2]; exact f4.1) (by rw [f5.2]; exact f5.1) (by decide) (fun tm hl h0 h1 h2 => ?_) rfl σ
  rw [f3.2] at h0
  rw [f4.2] at h1
  rw [f5.2] at h2
  unfold plV at h0 u
  unfold tkV at h1 u
  unfold rvV at h2 u
  replace hl : tm.length = 36 := hl
  have eP : Ends (Run X (.code (XCode.cutP 3 xf41.body)) tm Store.empty) .normal (I41 L q 0) := by
    unfold I41
    simp [xf41, XCode.cutP, prF, hl, h0, h1, h2, u, f1, f2, f6, f7, g1, g2, g3, pc, cells_agg, cells_int, xload, Store.empty, Store.new, Store.put, Store.get, look, putL, setR, Store.only, Store.merge, touch, wrote, upTo, isIn, okRec, hits, capsOf, xcaps, stripL, AVal.strip, freeL, AVal.free, fillR, chunks, mkV, List.filter, -AVal.cells]
  obtain ⟨o1, o2⟩ := out_of eP
  obtain ⟨x1, x2⟩ := hq.len
  have lp := loop_all (X := X) L.length (I41 L q) (e0 := .exit 0) (Q0 := I41 L q L.length) (by simp) (fun i tm σ hi' h' => round41 hq (by omega) hin i hi' tm σ h') (fun tm σ h' => by
    obtain ⟨hl, h8, h9, h7⟩ := h'
    unfold I41
    simp [xf41l0, hl, h8, h9, h7, x1, x2, put_next, new_next, Store.get_new, Store.get_put, put_get, setR, only_get, merge_get', only_next, merge_next, upTo_self, upTo_one, merge_only, touch, wrote, isIn, okRec, hits, capsOf, xcaps, stripL, AVal.strip, freeL, AVal.free, fillR, chunks, mkV]) _ _ o2
  obtain ⟨q1, q2, q3, q4, q5⟩ := out_of lp
  unfold Gives
  rw [Run_cut 3, o1, thenC_normal, show XCode.cutB 3 xf41.body = .block 0 (.loop xf41l0) from rfl, Run_block, q1, blockC_exit]
  generalize outT X (.loop xf41l0) _ _ = tm3 at *
  generalize outS X (.loop xf41l0) _ _ = σ3 at *
  rw [hlen] at q5
  simp [xf41, XCode.cutR, q2, q5, put_next, new_next, Store.get_new, Store.get_put, put_get, setR, only_get, merge_get', only_next, merge_next, upTo_self, upTo_one, merge_only, touch, wrote, isIn, okRec, hits, capsOf, xcaps, stripL, AVal.strip, freeL, AVal.free, fillR, chunks, mkV]
set_option maxHeartbeats 8000000 in
theorem w38bad (lo hi : Int) (t : Tk) {R : List Md} {H : List Hour} {P : List Int} {v w p : AVal} (h : LIn R H P v w p) (m : Int) (he : roE lo hi R t H P m ≠ 0) (σ : Store) : Run X (.call 38) [plV lo hi v, tkV t w, rvV p m] σ = some (.ret, [.tup [.int .i64 0, .int .i64 (roE lo hi R t H P m)]], σ) := by
  have f1 := h.v.free Md.fr
  have f2 := h.w.free Hour.fr
  have f6 := h.p.free
  have f3 := plV_fr (lo := lo) (hi := hi) f1
  have f4 := tkV_fr (t := t) f2
  have f5 := rvV_fr (m := m) f6
  have u := w36bad hX lo hi t h m he
  have g1 := h.v.one
  have g2 := h.w.one
  have g3 := h.p.one
  have pc := h.p.cells
  refine call3 (a := plV lo hi v) (b := tkV t w) (c := rvV p m) (v := .tup [.int .i64 0, .int .i64 (roE lo hi R t H P m)]) hX.h38 (by rw [f3.2]; exact f3.1) (by rw [f4.2]; exact f4.1) (by rw [f5.2]; exact f5.1) (by decide) (fun tm hl h0 h1 h2 => ?_) rfl σ
  rw [f3.2] at h0
  rw [f4.2] at h1
  rw [f5.2] at h2
  unfold plV at h0 u
  unfold tkV at h1 u
  unfold rvV at h2 u
  generalize roE lo hi R t H P m = E at *
  replace hl : tm.length = 41 := hl
  unfold Gives
  simp [xf38, hl, h0, h1, h2, u, f1, f2, f6, g1, g2, g3, pc, he, cells_agg, cells_int, xload, xresult, xrets, xret_t, Store.empty, Store.new, Store.put, Store.get, look, putL, setR, Store.only, Store.merge, touch, wrote, upTo, isIn, okRec, hits, capsOf, xcaps, stripL, AVal.strip, freeL, AVal.free, fillR, chunks, mkV, List.filter, -AVal.cells]
set_option maxHeartbeats 8000000 in
theorem w38 (lo hi : Int) (t : Tk) {R : List Md} {H : List Hour} {P : List Int} {v w p : AVal} (h : LIn R H P v w p) (he : teE lo hi R t H P = 0) {k : Nat} (hk : k < R.length) (σ : Store) : Run X (.call 38) [plV lo hi v, tkV t w, rvV p k] σ = some (.ret, [.tup [.int .i64 (prF (rsL lo hi R t H P k H.length) H.length), .int .i64 0]], σ) := by
  have f1 := h.v.free Md.fr
  have f2 := h.w.free Hour.fr
  have f6 := h.p.free
  have f3 := plV_fr (lo := lo) (hi := hi) f1
  have f4 := tkV_fr (t := t) f2
  have f5 := rvV_fr (m := (k : Int)) f6
  obtain ⟨ht, hP⟩ := teE_in he
  obtain ⟨q, hq, u⟩ := w36 hX lo hi t h he hk
  have hin := rsL_in lo hi R t ht.hn P k
  have hlen := rsL_len lo hi R t H P k H.length
  have hnn := ht.hn
  have f7 := hq.free
  obtain ⟨x1, x2⟩ := hq.len
  have g1 := h.v.one
  have g2 := h.w.one
  have g3 := h.p.one
  have pc := h.p.cells
  generalize hLL : rsL lo hi R t H P k H.length = L at *
  refine call3 (a := plV lo hi v) (b := tkV t w) (c := rvV p k) (v := .tup [.int .i64 (prF L H.length), .int .i64 0]) hX.h38 (by rw [f3.2]; exact f3.1) (by rw [f4.2]; exact f4.1) (by rw [f5.2]; exact f5.1) (by decide) (fun tm hl h0 h1 h2 => ?_) rfl σ
  rw [f3.2] at h0
  rw [f4.2] at h1
  rw [f5.2] at h2
  unfold plV at h0 u
  unfold tkV at h1 u
  unfold rvV at h2 u
  replace hl : tm.length = 41 := hl
  have eP : Ends (Run X (.code (XCode.cutP 4 xf38.body)) tm Store.empty) .normal (I38 L q 0) := by
    unfold I38
    simp [xf38, XCode.cutP, prF, hl, h0, h1, h2, u, f1, f2, f6, f7, x1, x2, g1, g2, g3, pc, cells_agg, cells_int, xload, Store.empty, Store.new, Store.put, Store.get, look, putL, setR, Store.only, Store.merge, touch, wrote, upTo, isIn, okRec, hits, capsOf, xcaps, stripL, AVal.strip, freeL, AVal.free, fillR, chunks, mkV, List.filter, -AVal.cells]
  obtain ⟨o1, o2⟩ := out_of eP
  have lp := loop_all (X := X) L.length (I38 L q) (e0 := .exit 0) (Q0 := I38 L q L.length) (by simp) (fun i tm σ hi' h' => round38 hq (by omega) hin i hi' tm σ h') (fun tm σ h' => by
    obtain ⟨hl, h8, h23, h24, h25, h10⟩ := h'
    unfold I38
    simp [xf38l0, hl, h8, h23, h24, h25, h10, put_next, new_next, Store.get_new, Store.get_put, put_get, setR, only_get, merge_get', only_next, merge_next, upTo_self, upTo_one, merge_only, touch, wrote, isIn, okRec, hits, capsOf, xcaps, stripL, AVal.strip, freeL, AVal.free, fillR, chunks, mkV]) _ _ o2
  obtain ⟨q1, q2, q3, q4, q5, q6, q7⟩ := out_of lp
  unfold Gives
  rw [Run_cut 4, o1, thenC_normal, show XCode.cutB 4 xf38.body = .block 0 (.loop xf38l0) from rfl, Run_block, q1, blockC_exit]
  generalize outT X (.loop xf38l0) _ _ = tm3 at *
  generalize outS X (.loop xf38l0) _ _ = σ3 at *
  rw [hlen] at q7
  simp [xf38, XCode.cutR, q2, q7, put_next, new_next, Store.get_new, Store.get_put, put_get, setR, only_get, merge_get', only_next, merge_next, upTo_self, upTo_one, merge_only, touch, wrote, isIn, okRec, hits, capsOf, xcaps, stripL, AVal.strip, freeL, AVal.free, fillR, chunks, mkV, xresult, xrets, xret_t]
end
end Go.Proofs.Ytgijgcmcpgepaaa.Eng

/-
  DISPATCH: the law of reserves.
-/
namespace Go.Proofs.Ytgijgcmcpgepaaa.Eng
set_option linter.unusedSimpArgs false
set_option linter.unusedVariables false
section
variable {X : FuncId → Option XFunc} (hX : DxDCode X)
include hX
set_option maxHeartbeats 16000000 in
theorem w5 (hA : ∀ σ, Run X (.call 12) [] σ = some (.ret, [.bool true], σ)) (lo hi : Int) (t : Tk) {R : List Md} {H : List Hour} {P : List Int} {v w p : AVal} (m : Int) (hv : LV 4 Md.enc R v) (hw : LV 3 Hour.enc H w) (hp : IntV P p) (σ : Store) : Run X (.call 5) [plV lo hi v, tkV t w, rvV p m] σ = some (.ret, [.bool true], σ) := by
  have f1 := hv.free Md.fr
  have f2 := hw.free Hour.fr
  have f6 := hp.free
  have f3 := plV_fr (lo := lo) (hi := hi) f1
  have f4 := tkV_fr (t := t) f2
  have f5 := rvV_fr (m := m) f6
  refine call3 (a := plV lo hi v) (b := tkV t w) (c := rvV p m) (v := .bool true) hX.h5 (by rw [f3.2]; exact f3.1) (by rw [f4.2]; exact f4.1) (by rw [f5.2]; exact f5.1) (by decide) (fun tm hl h0 h1 h2 => ?_) rfl σ
  rw [f3.2] at h0
  rw [f4.2] at h1
  rw [f5.2] at h2
  unfold plV at h0
  unfold tkV at h1
  unfold rvV at h2
  replace hl : tm.length = 98 := hl
  have u13 := w13 hX.dxC.dxB lo hi hv
  have u14 := w14 hX.dxC.dxB t hw
  obtain ⟨k1, k2⟩ := hp.len
  have g1 := hv.one
  have g2 := hw.one
  have g3 := hp.one
  have pc := hp.cells
  unfold plV at u13
  unfold tkV at u14
  unfold Gives
  cases c1 : fewB R
  · simp [xf5, hl, h0, h1, h2, hA, u13, f1, f2, f6, g1, g2, g3, pc, c1, cells_agg, cells_int, xload, Store.empty, Store.new, Store.put, Store.get, look, putL, setR, Store.only, Store.merge, touch, wrote, upTo, isIn, okRec, hits, capsOf, xcaps, stripL, AVal.strip, freeL, AVal.free, fillR, chunks, mkV, List.filter, -AVal.cells]
  by_cases c2 : H.length ≤ 12
  · by_cases c3 : P.length ≤ 12
    · have c3' : ¬ (12 : Int) < P.length := by omega
      obtain ⟨r1, r2⟩ := fewB_of c1
      have fm := fr_map Md.fr R
      have fh := fr_map Hour.fr H
      have fms := freeL_strip fm
      have fhs := freeL_strip fh
      have fi := ints_fr P
      have fis := freeL_strip fi
      have hv' : LV 4 Md.enc R (.list 4 (R.map Md.enc) none) := .inl rfl
      have hw' : LV 3 Hour.enc H (.list 3 (H.map Hour.enc) none) := .inl rfl
      have hp' : IntV P (.list 1 (ints P) none) := .inl rfl
      have hL : LIn R H P v w p := ⟨hv, hw, hp, r1, r2, c2, c3⟩
      have hL' : LIn R H P (.list 4 (R.map Md.enc) none) (.list 3 (H.map Hour.enc) none) (.list 1 (ints P) none) := ⟨hv', hw', hp', r1, r2, c2, c3⟩
      have u16 := w16 hX.dxC.dxB lo hi hv (by omega)
      have u18 := w18 hX.dxC.dxB t hw (by omega)
      have u37 := w37 hX hp (by omega) m
      have u32 := w32 hX.dxC.dxB lo hi hv (by omega) r2 t hw (by omega)
      unfold plV at u16 u32
      unfold tkV at u18 u32
      unfold rvV at u37
      by_cases c4 : (tkC lo hi R t H).2 = 0
      · have ht := tin_of c4
        have u39 := w39 hX lo hi t hL ht m
        unfold plV tkV rvV at u39
        rw [c4] at u32
        have et : teE lo hi R t H P = pE lo hi R t H P := by unfold teE; rw [if_pos c4]
        have er : roE lo hi R t H P m = rvE lo hi R t H P m := by
          unfold roE rvE
          rw [et]
          by_cases c5 : pE lo hi R t H P = 0
          · rw [if_pos c5, c5]
            by_cases c6 : ixE m R.length = 0 <;> simp [firstNZ, c6]
          · rw [if_neg c5]; simp [firstNZ, c5]
        by_cases c5 : rvE lo hi R t H P m = 0
        · have hh : pE lo hi R t H P = 0 ∧ ixE m R.length = 0 := by
            unfold rvE at c5
            by_cases c6 : pE lo hi R t H P = 0
            · rw [if_pos c6] at c5; exact ⟨c6, c5⟩
            · rw [if_neg c6] at c5; exact absurd c5 c6
          have e0 : teE lo hi R t H P = 0 := by rw [et]; exact hh.1
          obtain ⟨k, rfl, hk⟩ := ixE_ok hh.2
          obtain ⟨q, hq, u36⟩ := w36 hX lo hi t hL' e0 hk
          obtain ⟨q', hq', u40⟩ := w40 hX lo hi t hL e0 hk
          have u26 := w26 hX.dxC.dxB.dxA hq hq' (by rw [rsL_len]; omega)
          have u38 := w38 hX lo hi t hL' e0 hk
          have u41 := w41 hX lo hi t hL e0 hk
          have f7 := hq.free
          have f8 := hq'.free
          unfold plV tkV rvV at u36 u38 u40 u41
          rw [c5] at u39
          simp [xf5, hl, h0, h1, h2, hA, u13, u14, u16, u18, u26, u32, u36, u37, u38, u39, u40, u41, f1, f2, f6, f7, f8, fm, fh, fms, fhs, fi, fis, k1, k2, g1, g2, g3, pc, c1, c2, c3', cells_agg, cells_int, xload, Store.empty, Store.new, Store.put, Store.get, look, putL, setR, Store.only, Store.merge, touch, wrote, upTo, isIn, okRec, hits, capsOf, xcaps, stripL, AVal.strip, freeL, AVal.free, fillR, chunks, mkV, List.filter, -AVal.cells]
        · have e0 : roE lo hi R t H P m ≠ 0 := by rw [er]; exact c5
          have u36 := w36bad hX lo hi t hL' m e0
          have u38 := w38bad hX lo hi t hL' m e0
          rw [er] at u36 u38
          unfold plV tkV rvV at u36 u38
          simp [xf5, hl, h0, h1, h2, hA, u13, u14, u16, u18, u32, u36, u37, u38, u39, f1, f2, f6, fm, fh, fms, fhs, fi, fis, k1, k2, g1, g2, g3, pc, c1, c2, c3', c5, cells_agg, cells_int, xload, Store.empty, Store.new, Store.put, Store.get, look, putL, setR, Store.only, Store.merge, touch, wrote, upTo, isIn, okRec, hits, capsOf, xcaps, stripL, AVal.strip, freeL, AVal.free, fillR, chunks, mkV, List.filter, -AVal.cells]
      · have er : roE lo hi R t H P m = (tkC lo hi R t H).2 := by unfold roE teE; rw [if_neg c4]; simp [firstNZ, c4]
        have e0 : roE lo hi R t H P m ≠ 0 := by rw [er]; exact c4
        have u36 := w36bad hX lo hi t hL' m e0
        have u38 := w38bad hX lo hi t hL' m e0
        rw [er] at u36 u38
        unfold plV tkV rvV at u36 u38
        simp [xf5, hl, h0, h1, h2, hA, u13, u14, u16, u18, u32, u36, u37, u38, f1, f2, f6, fm, fh, fms, fhs, fi, fis, k1, k2, g1, g2, g3, pc, c1, c2, c3', c4, cells_agg, cells_int, xload, Store.empty, Store.new, Store.put, Store.get, look, putL, setR, Store.only, Store.merge, touch, wrote, upTo, isIn, okRec, hits, capsOf, xcaps, stripL, AVal.strip, freeL, AVal.free, fillR, chunks, mkV, List.filter, -AVal.cells]
    · have c3' : (12 : Int) < P.length := by omega
      simp [xf5, hl, h0, h1, h2, hA, u13, u14, f1, f2, f6, k1, k2, g1, g2, g3, pc, c1, c2, c3', cells_agg, cells_int, xload, Store.empty, Store.new, Store.put, Store.get, look, putL, setR, Store.only, Store.merge, touch, wrote, upTo, isIn, okRec, hits, capsOf, xcaps, stripL, AVal.strip, freeL, AVal.free, fillR, chunks, mkV, List.filter, -AVal.cells]
  · simp [xf5, hl, h0, h1, h2, hA, u13, u14, f1, f2, f6, k1, k2, g1, g2, g3, pc, c1, c2, cells_agg, cells_int, xload, Store.empty, Store.new, Store.put, Store.get, look, putL, setR, Store.only, Store.merge, touch, wrote, upTo, isIn, okRec, hits, capsOf, xcaps, stripL, AVal.strip, freeL, AVal.free, fillR, chunks, mkV, List.filter, -AVal.cells]
end
end Go.Proofs.Ytgijgcmcpgepaaa.Eng
