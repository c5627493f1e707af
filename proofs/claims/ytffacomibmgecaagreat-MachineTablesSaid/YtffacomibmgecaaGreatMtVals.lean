/-
  Values of the rows' types.
-/
import Derived.Test.YtffacomibmgecaaGreatMtPBase
import Derived.Test.YtffacomibmgecaaGreatMtRun1
namespace Go.Proofs.YtffacomibmgecaaGreat
open Go.ChangeShapes Go.WideShapes Go.ChangeAt Go.RowKit Go.Proofs.YtffacomibmgecaaGreat.Eng
set_option linter.unusedSimpArgs false
set_option linter.unusedVariables false
theorem cells148 : Tryz.prog.cellsOf 148 = 3 := by kernel_rfl
theorem cells136 : Tryz.prog.cellsOf 136 = 2 := by kernel_rfl
theorem pt_has {x : AVal} (h : HasV Tryz.prog 148 x) : ∃ p : Pt, x = p.enc := by
  obtain ⟨vs, rfl, hl, hv⟩ := h.struct_inv Tryz.underlying148
  match vs, hl with
  | [a, b, c], _ =>
    obtain ⟨x, rfl, _⟩ := (hv 0 _ _ rfl rfl).int_inv Tryz.underlying3
    obtain ⟨y, rfl, _⟩ := (hv 1 _ _ rfl rfl).int_inv Tryz.underlying3
    obtain ⟨z, rfl, _⟩ := (hv 2 _ _ rfl rfl).int_inv Tryz.underlying3
    exact ⟨⟨x, y, z⟩, rfl⟩
theorem pt_list : ∀ {xs : List AVal}, (∀ y ∈ xs, HasV Tryz.prog 148 y) → ∃ l : List Pt, xs = encs l
  | [], _ => ⟨[], rfl⟩
  | x :: xs, h => by
    obtain ⟨s, rfl⟩ := pt_has (h x (by simp))
    obtain ⟨l, rfl⟩ := pt_list (xs := xs) fun y hy => h y (by simp [hy])
    exact ⟨s :: l, rfl⟩
theorem pts_val {v : AVal} (h : HasV Tryz.prog 134 v) : ∃ l, PL l v := by
  rcases h.slice_inv Tryz.underlying134 with rfl | ⟨xs, rfl, _, hx⟩
  · exact ⟨[], .inl ⟨rfl, rfl⟩⟩
  · obtain ⟨l, rfl⟩ := pt_list hx
    exact ⟨l, .inr (by rw [cells148])⟩
theorem row_has {x : AVal} (h : HasV Tryz.prog 136 x) : ∃ r : Rw, x = r.enc ∧ PL r.pts r.v := by
  obtain ⟨vs, rfl, hl, hv⟩ := h.struct_inv Tryz.underlying136
  match vs, hl with
  | [a, b], _ =>
    obtain ⟨x, rfl, _⟩ := (hv 0 _ _ rfl rfl).int_inv Tryz.underlying3
    obtain ⟨l, hl⟩ := pts_val (hv 1 _ _ rfl rfl)
    refine ⟨⟨x, b, l⟩, ?_, hl⟩
    rcases hl with ⟨rfl, _⟩ | rfl <;> rfl
theorem row_list : ∀ {xs : List AVal}, (∀ y ∈ xs, HasV Tryz.prog 136 y) → ∃ t : List Rw, xs = rws t ∧ ∀ r, r ∈ t → PL r.pts r.v
  | [], _ => ⟨[], rfl, fun r hr => by simp at hr⟩
  | x :: xs, h => by
    obtain ⟨s, rfl, hs⟩ := row_has (h x (by simp))
    obtain ⟨l, rfl, hl⟩ := row_list (xs := xs) fun y hy => h y (by simp [hy])
    exact ⟨s :: l, rfl, fun r hr => (List.mem_cons.1 hr).elim (fun e => e ▸ hs) (hl r)⟩
theorem table_val {v : AVal} (h : HasV Tryz.prog 24 v) : ∃ t w, TL t w ∧ v = .agg [w] := by
  obtain ⟨vs, rfl, hl, hv⟩ := h.struct_inv Tryz.underlying24
  match vs, hl with
  | [a], _ =>
    rcases (hv 0 _ _ rfl rfl).slice_inv Tryz.underlying22 with rfl | ⟨xs, rfl, _, hx⟩
    · exact ⟨[], .nils, ⟨.inl ⟨rfl, rfl⟩, fun r hr => by simp at hr⟩, rfl⟩
    · obtain ⟨t, rfl, ht⟩ := row_list hx
      exact ⟨t, .list 2 (rws t) none, ⟨.inr rfl, ht⟩, by rw [cells136]; rfl⟩
end Go.Proofs.YtffacomibmgecaaGreat
