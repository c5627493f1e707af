/-
  Values of the rows' types.
-/
import Derived.Test.YtbgjmclpahganaaGreatVZBase
import Derived.Test.YtbgjmclpahganaaGreatRun1
namespace Go.Proofs.YtbgjmclpahganaaGreat
open Go.ChangeShapes Go.WideShapes Go.ChangeAt Go.RowKit Go.Proofs.YtbgjmclpahganaaGreat.Eng
set_option linter.unusedSimpArgs false
set_option linter.unusedVariables false
theorem cells137 : Tryz.prog.cellsOf 137 = 2 := by kernel_rfl
theorem kn_has {x : AVal} (h : HasV Tryz.prog 137 x) : ∃ k : Kn, x = k.enc := by
  obtain ⟨vs, rfl, hl, hv⟩ := h.struct_inv Tryz.underlying137
  match vs, hl with
  | [a, b], _ =>
    obtain ⟨x, rfl, _⟩ := (hv 0 _ _ rfl rfl).int_inv Tryz.underlying3
    obtain ⟨y, rfl, _⟩ := (hv 1 _ _ rfl rfl).int_inv Tryz.underlying3
    exact ⟨(x, y), rfl⟩
theorem kn_list : ∀ {xs : List AVal}, (∀ y ∈ xs, HasV Tryz.prog 137 y) → ∃ l : List Kn, xs = kns l
  | [], _ => ⟨[], rfl⟩
  | x :: xs, h => by
    obtain ⟨s, rfl⟩ := kn_has (h x (by simp))
    obtain ⟨l, rfl⟩ := kn_list (xs := xs) fun y hy => h y (by simp [hy])
    exact ⟨s :: l, rfl⟩
theorem kn_val {v : AVal} (h : HasV Tryz.prog 22 v) : ∃ l, KL l v := by
  rcases h.slice_inv Tryz.underlying22 with rfl | ⟨xs, rfl, _, hx⟩
  · exact ⟨[], .inl ⟨rfl, rfl⟩⟩
  · obtain ⟨l, rfl⟩ := kn_list hx
    exact ⟨l, .inr (by rw [cells137])⟩
theorem tab_val {v : AVal} (h : HasV Tryz.prog 24 v) : ∃ l u, KL l u ∧ v = .agg [u] := by
  obtain ⟨vs, rfl, hl, hv⟩ := h.struct_inv Tryz.underlying24
  match vs, hl with
  | [a], _ =>
    obtain ⟨l, hu⟩ := kn_val (hv 0 _ _ rfl rfl)
    refine ⟨l, a, hu, ?_⟩
    rcases hu with ⟨rfl, _⟩ | rfl <;> rfl
theorem pair_val {v : AVal} (h : HasV Tryz.prog 26 v) : ∃ a b u w r, KL a u ∧ KL b w ∧ v = .agg [u, w, .int .i64 r] := by
  obtain ⟨vs, rfl, hl, hv⟩ := h.struct_inv Tryz.underlying26
  match vs, hl with
  | [x, y, z], _ =>
    obtain ⟨a, u, hu, rfl⟩ := tab_val (hv 0 _ _ rfl rfl)
    obtain ⟨b, w, hw, rfl⟩ := tab_val (hv 1 _ _ rfl rfl)
    obtain ⟨r, rfl, _⟩ := (hv 2 _ _ rfl rfl).int_inv Tryz.underlying3
    exact ⟨a, b, u, w, r, hu, hw, rfl⟩
theorem state_val {v : AVal} (h : HasV Tryz.prog 28 v) : ∃ x y, v = .agg [.int .i64 x, .int .i64 y] := by
  obtain ⟨vs, rfl, hl, hv⟩ := h.struct_inv Tryz.underlying28
  match vs, hl with
  | [a, b], _ =>
    obtain ⟨x, rfl, _⟩ := (hv 0 _ _ rfl rfl).int_inv Tryz.underlying3
    obtain ⟨y, rfl, _⟩ := (hv 1 _ _ rfl rfl).int_inv Tryz.underlying3
    exact ⟨x, y, rfl⟩
theorem flows_val {v : AVal} (h : HasV Tryz.prog 73 v) : ∃ x y z, v = .agg [.int .i64 x, .int .i64 y, .int .i64 z] := by
  obtain ⟨vs, rfl, hl, hv⟩ := h.struct_inv Tryz.underlying73
  match vs, hl with
  | [a, b, c], _ =>
    obtain ⟨x, rfl, _⟩ := (hv 0 _ _ rfl rfl).int_inv Tryz.underlying3
    obtain ⟨y, rfl, _⟩ := (hv 1 _ _ rfl rfl).int_inv Tryz.underlying3
    obtain ⟨z, rfl, _⟩ := (hv 2 _ _ rfl rfl).int_inv Tryz.underlying3
    exact ⟨x, y, z, rfl⟩
theorem cells73 : Tryz.prog.cellsOf 73 = 3 := by kernel_rfl
theorem flow_list : ∀ {xs : List AVal}, (∀ y ∈ xs, HasV Tryz.prog 73 y) → ∃ l : List Rdg, xs = rds l
  | [], _ => ⟨[], rfl⟩
  | x :: xs, h => by
    obtain ⟨i1, i2, e, rfl⟩ := flows_val (h x (by simp))
    obtain ⟨l, rfl⟩ := flow_list (xs := xs) fun y hy => h y (by simp [hy])
    exact ⟨(i1, i2, e) :: l, rfl⟩
theorem flows_has {v : AVal} (h : HasV Tryz.prog 29 v) : ∃ l, RL l v := by
  rcases h.slice_inv Tryz.underlying29 with rfl | ⟨xs, rfl, _, hx⟩
  · exact ⟨[], .inl ⟨rfl, rfl⟩⟩
  · obtain ⟨l, rfl⟩ := flow_list hx
    exact ⟨l, .inr (by rw [cells73])⟩
end Go.Proofs.YtbgjmclpahganaaGreat
