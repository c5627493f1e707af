/-
  Values of the rows' types: plants, tasks.
-/
import Derived.Test.YtgijgcmcpgepaaaDxQVals
import Derived.Test.YtgijgcmcpgepaaaDxRun2
namespace Go.Proofs.Ytgijgcmcpgepaaa
open Go.ChangeShapes Go.WideShapes Go.ChangeAt Go.RowKit Go.Proofs.Ytgijgcmcpgepaaa.Eng
set_option linter.unusedSimpArgs false
set_option linter.unusedVariables false
theorem cells108 : Try.prog.cellsOf 108 = 4 := by kernel_rfl
theorem cells120 : Try.prog.cellsOf 120 = 3 := by kernel_rfl
theorem str_inv {t : Go.TypeId} {x : AVal} (ht : Try.prog.underlying t = some .string) (h : HasV Try.prog t x) : ∃ s, x = .str s := by
  cases h with
  | int t k' n h1 h2 => rw [ht] at h1; cases h1
  | bool t b h1 => rw [ht] at h1; cases h1
  | str t s h1 h2 => exact ⟨s, rfl⟩
  | nils t e h1 => rw [ht] at h1; cases h1
  | list t e xs h1 => rw [ht] at h1; cases h1
  | struct t fs vs h1 => rw [ht] at h1; cases h1
  | array t e n vs h1 => rw [ht] at h1; cases h1
theorem md_has {x : AVal} (h : HasV Try.prog 108 x) : ∃ m : Md, x = m.enc := by
  obtain ⟨vs, rfl, hl, hv⟩ := h.struct_inv Try.underlying108
  match vs, hl with
  | [a, b, c, d], _ =>
    obtain ⟨s, rfl⟩ := str_inv Try.underlying9 (hv 0 _ _ rfl rfl)
    obtain ⟨x, rfl, _⟩ := (hv 1 _ _ rfl rfl).int_inv Try.underlying3
    obtain ⟨y, rfl, _⟩ := (hv 2 _ _ rfl rfl).int_inv Try.underlying3
    obtain ⟨z, rfl, _⟩ := (hv 3 _ _ rfl rfl).int_inv Try.underlying3
    exact ⟨⟨s, x, y, z⟩, rfl⟩
theorem hr_has {x : AVal} (h : HasV Try.prog 120 x) : ∃ m : Hour, x = m.enc := by
  obtain ⟨vs, rfl, hl, hv⟩ := h.struct_inv Try.underlying120
  match vs, hl with
  | [a, b, c], _ =>
    obtain ⟨x, rfl, _⟩ := (hv 0 _ _ rfl rfl).int_inv Try.underlying3
    obtain ⟨y, rfl, _⟩ := (hv 1 _ _ rfl rfl).int_inv Try.underlying3
    obtain ⟨z, rfl, _⟩ := (hv 2 _ _ rfl rfl).int_inv Try.underlying3
    exact ⟨⟨x, y, z⟩, rfl⟩
theorem md_list : ∀ {xs : List AVal}, (∀ y ∈ xs, HasV Try.prog 108 y) → ∃ R : List Md, xs = R.map Md.enc
  | [], _ => ⟨[], rfl⟩
  | x :: xs, h => by
    obtain ⟨s, rfl⟩ := md_has (h x (by simp))
    obtain ⟨l, rfl⟩ := md_list (xs := xs) fun y hy => h y (by simp [hy])
    exact ⟨s :: l, rfl⟩
theorem hr_list : ∀ {xs : List AVal}, (∀ y ∈ xs, HasV Try.prog 120 y) → ∃ R : List Hour, xs = R.map Hour.enc
  | [], _ => ⟨[], rfl⟩
  | x :: xs, h => by
    obtain ⟨s, rfl⟩ := hr_has (h x (by simp))
    obtain ⟨l, rfl⟩ := hr_list (xs := xs) fun y hy => h y (by simp [hy])
    exact ⟨s :: l, rfl⟩
theorem plant_val {v : AVal} (h : HasV Try.prog 24 v) : ∃ lo hi R w, v = plV lo hi w ∧ LV 4 Md.enc R w := by
  obtain ⟨vs, rfl, hl, hv⟩ := h.struct_inv Try.underlying24
  match vs, hl with
  | [a, b, c], _ =>
    obtain ⟨x, rfl, _⟩ := (hv 0 _ _ rfl rfl).int_inv Try.underlying3
    obtain ⟨y, rfl, _⟩ := (hv 1 _ _ rfl rfl).int_inv Try.underlying3
    rcases (hv 2 _ _ rfl rfl).slice_inv Try.underlying22 with rfl | ⟨xs, rfl, _, hx⟩
    · exact ⟨x, y, [], .nils, rfl, .inr ⟨rfl, rfl⟩⟩
    · obtain ⟨R, rfl⟩ := md_list hx
      exact ⟨x, y, R, _, rfl, .inl (by rw [cells108])⟩
theorem task_val {v : AVal} (h : HasV Try.prog 27 v) : ∃ (t : Tk) (H : List Hour) (w : AVal), v = tkV t w ∧ LV 3 Hour.enc H w := by
  obtain ⟨vs, rfl, hl, hv⟩ := h.struct_inv Try.underlying27
  match vs, hl with
  | [a, b, c, d], _ =>
    obtain ⟨x, rfl, _⟩ := (hv 0 _ _ rfl rfl).int_inv Try.underlying3
    obtain ⟨y, rfl, _⟩ := (hv 1 _ _ rfl rfl).int_inv Try.underlying3
    obtain ⟨z, rfl, _⟩ := (hv 2 _ _ rfl rfl).int_inv Try.underlying3
    rcases (hv 3 _ _ rfl rfl).slice_inv Try.underlying25 with rfl | ⟨xs, rfl, _, hx⟩
    · exact ⟨⟨x, y, z⟩, [], .nils, rfl, .inr ⟨rfl, rfl⟩⟩
    · obtain ⟨R, rfl⟩ := hr_list hx
      exact ⟨⟨x, y, z⟩, R, _, rfl, .inl (by rw [cells120])⟩
end Go.Proofs.Ytgijgcmcpgepaaa
