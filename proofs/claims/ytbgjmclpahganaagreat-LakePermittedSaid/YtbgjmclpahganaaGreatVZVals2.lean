/-
  Values of the rows' types: readings.
-/
import Derived.Test.YtbgjmclpahganaaGreatVZVals
import Derived.Test.YtbgjmclpahganaaGreatRead1
namespace Go.Proofs.YtbgjmclpahganaaGreat
open Go.ChangeShapes Go.WideShapes Go.ChangeAt Go.RowKit Go.Proofs.YtbgjmclpahganaaGreat.Eng
set_option linter.unusedSimpArgs false
set_option linter.unusedVariables false
theorem range_val {v : AVal} (h : HasV Tryz.prog 48 v) : ∃ x y, v = .agg [.int .i64 x, .int .i64 y] := by
  obtain ⟨vs, rfl, hl, hv⟩ := h.struct_inv Tryz.underlying48
  match vs, hl with
  | [a, b], _ =>
    obtain ⟨x, rfl, _⟩ := (hv 0 _ _ rfl rfl).int_inv Tryz.underlying3
    obtain ⟨y, rfl, _⟩ := (hv 1 _ _ rfl rfl).int_inv Tryz.underlying3
    exact ⟨x, y, rfl⟩
theorem read_val {v : AVal} (h : HasV Tryz.prog 99 v) : ∃ r : Rdg, v = r.enc := by
  obtain ⟨vs, rfl, hl, hv⟩ := h.struct_inv Tryz.underlying99
  match vs, hl with
  | [a, b], _ =>
    obtain ⟨x, rfl, _⟩ := (hv 0 _ _ rfl rfl).int_inv Tryz.underlying3
    obtain ⟨y, z, rfl⟩ := range_val (hv 1 _ _ rfl rfl)
    exact ⟨(x, y, z), rfl⟩
theorem cells99 : Tryz.prog.cellsOf 99 = 3 := by kernel_rfl
theorem read_list : ∀ {xs : List AVal}, (∀ y ∈ xs, HasV Tryz.prog 99 y) → ∃ l : List Rdg, xs = rds l
  | [], _ => ⟨[], rfl⟩
  | x :: xs, h => by
    obtain ⟨r, rfl⟩ := read_val (h x (by simp))
    obtain ⟨l, rfl⟩ := read_list (xs := xs) fun y hy => h y (by simp [hy])
    exact ⟨r :: l, rfl⟩
theorem reads_has {v : AVal} (h : HasV Tryz.prog 75 v) : ∃ l, RL l v := by
  rcases h.slice_inv Tryz.underlying75 with rfl | ⟨xs, rfl, _, hx⟩
  · exact ⟨[], .inl ⟨rfl, rfl⟩⟩
  · obtain ⟨l, rfl⟩ := read_list hx
    exact ⟨l, .inr (by rw [cells99])⟩
theorem cells3 : Tryz.prog.cellsOf 3 = 1 := by kernel_rfl
theorem int_list : ∀ {xs : List AVal}, (∀ y ∈ xs, HasV Tryz.prog 3 y) → ∃ l : List Int, xs = ints l
  | [], _ => ⟨[], rfl⟩
  | x :: xs, h => by
    obtain ⟨n, rfl, _⟩ := (h x (by simp)).int_inv Tryz.underlying3
    obtain ⟨l, rfl⟩ := int_list (xs := xs) fun y hy => h y (by simp [hy])
    exact ⟨n :: l, rfl⟩
theorem ints_has {v : AVal} (h : HasV Tryz.prog 74 v) : ∃ l, DL l v := by
  rcases h.slice_inv Tryz.underlying74 with rfl | ⟨xs, rfl, _, hx⟩
  · exact ⟨[], .inl ⟨rfl, rfl⟩⟩
  · obtain ⟨l, rfl⟩ := int_list hx
    exact ⟨l, .inr (by rw [cells3])⟩
end Go.Proofs.YtbgjmclpahganaaGreat
