/-
  Values of the rows' types.
-/
import Derived.Test.YtbgjmclpahganaaUZBase
import Derived.Test.YtbgjmclpahganaaRun1
namespace Go.Proofs.Ytbgjmclpahganaa
open Go.ChangeShapes Go.WideShapes Go.ChangeAt Go.RowKit Go.Proofs.Ytbgjmclpahganaa.Eng
set_option linter.unusedSimpArgs false
set_option linter.unusedVariables false
theorem cells104 : Try.prog.cellsOf 104 = 2 := by kernel_rfl
theorem kn_has {x : AVal} (h : HasV Try.prog 104 x) : ∃ k : Kn, x = k.enc := by
  obtain ⟨vs, rfl, hl, hv⟩ := h.struct_inv Try.underlying104
  match vs, hl with
  | [a, b], _ =>
    obtain ⟨x, rfl, _⟩ := (hv 0 _ _ rfl rfl).int_inv Try.underlying3
    obtain ⟨y, rfl, _⟩ := (hv 1 _ _ rfl rfl).int_inv Try.underlying3
    exact ⟨(x, y), rfl⟩
theorem kn_list : ∀ {xs : List AVal}, (∀ y ∈ xs, HasV Try.prog 104 y) → ∃ l : List Kn, xs = kns l
  | [], _ => ⟨[], rfl⟩
  | x :: xs, h => by
    obtain ⟨s, rfl⟩ := kn_has (h x (by simp))
    obtain ⟨l, rfl⟩ := kn_list (xs := xs) fun y hy => h y (by simp [hy])
    exact ⟨s :: l, rfl⟩
theorem kn_val {v : AVal} (h : HasV Try.prog 22 v) : ∃ l, KL l v := by
  rcases h.slice_inv Try.underlying22 with rfl | ⟨xs, rfl, _, hx⟩
  · exact ⟨[], .inl ⟨rfl, rfl⟩⟩
  · obtain ⟨l, rfl⟩ := kn_list hx
    exact ⟨l, .inr (by rw [cells104])⟩
theorem tab_val {v : AVal} (h : HasV Try.prog 24 v) : ∃ l u, KL l u ∧ v = .agg [u] := by
  obtain ⟨vs, rfl, hl, hv⟩ := h.struct_inv Try.underlying24
  match vs, hl with
  | [a], _ =>
    obtain ⟨l, hu⟩ := kn_val (hv 0 _ _ rfl rfl)
    refine ⟨l, a, hu, ?_⟩
    rcases hu with ⟨rfl, _⟩ | rfl <;> rfl
theorem pair_val {v : AVal} (h : HasV Try.prog 26 v) : ∃ a b u w r, KL a u ∧ KL b w ∧ v = .agg [u, w, .int .i64 r] := by
  obtain ⟨vs, rfl, hl, hv⟩ := h.struct_inv Try.underlying26
  match vs, hl with
  | [x, y, z], _ =>
    obtain ⟨a, u, hu, rfl⟩ := tab_val (hv 0 _ _ rfl rfl)
    obtain ⟨b, w, hw, rfl⟩ := tab_val (hv 1 _ _ rfl rfl)
    obtain ⟨r, rfl, _⟩ := (hv 2 _ _ rfl rfl).int_inv Try.underlying3
    exact ⟨a, b, u, w, r, hu, hw, rfl⟩
theorem state_val {v : AVal} (h : HasV Try.prog 28 v) : ∃ x y, v = .agg [.int .i64 x, .int .i64 y] := by
  obtain ⟨vs, rfl, hl, hv⟩ := h.struct_inv Try.underlying28
  match vs, hl with
  | [a, b], _ =>
    obtain ⟨x, rfl, _⟩ := (hv 0 _ _ rfl rfl).int_inv Try.underlying3
    obtain ⟨y, rfl, _⟩ := (hv 1 _ _ rfl rfl).int_inv Try.underlying3
    exact ⟨x, y, rfl⟩
theorem flows_val {v : AVal} (h : HasV Try.prog 43 v) : ∃ x y z, v = .agg [.int .i64 x, .int .i64 y, .int .i64 z] := by
  obtain ⟨vs, rfl, hl, hv⟩ := h.struct_inv Try.underlying43
  match vs, hl with
  | [a, b, c], _ =>
    obtain ⟨x, rfl, _⟩ := (hv 0 _ _ rfl rfl).int_inv Try.underlying3
    obtain ⟨y, rfl, _⟩ := (hv 1 _ _ rfl rfl).int_inv Try.underlying3
    obtain ⟨z, rfl, _⟩ := (hv 2 _ _ rfl rfl).int_inv Try.underlying3
    exact ⟨x, y, z, rfl⟩
theorem cells43 : Try.prog.cellsOf 43 = 3 := by kernel_rfl
theorem flow_list : ∀ {xs : List AVal}, (∀ y ∈ xs, HasV Try.prog 43 y) → ∃ l : List Rd, xs = rds l
  | [], _ => ⟨[], rfl⟩
  | x :: xs, h => by
    obtain ⟨i1, i2, e, rfl⟩ := flows_val (h x (by simp))
    obtain ⟨l, rfl⟩ := flow_list (xs := xs) fun y hy => h y (by simp [hy])
    exact ⟨(i1, i2, e) :: l, rfl⟩
theorem flows_has {v : AVal} (h : HasV Try.prog 35 v) : ∃ l, RL l v := by
  rcases h.slice_inv Try.underlying35 with rfl | ⟨xs, rfl, _, hx⟩
  · exact ⟨[], .inl ⟨rfl, rfl⟩⟩
  · obtain ⟨l, rfl⟩ := flow_list hx
    exact ⟨l, .inr (by rw [cells43])⟩
end Go.Proofs.Ytbgjmclpahganaa
