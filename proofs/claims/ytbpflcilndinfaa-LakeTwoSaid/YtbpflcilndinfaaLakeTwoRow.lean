/-
  LAKE: LakeTwo.
-/
import Derived.Test.YtbpflcilndinfaaLakeRows
import Derived.Test.YtbpflcilndinfaaReadFacts
import Derived.Test.YtbpflcilndinfaaRead1
namespace Go.Proofs.Ytbpflcilndinfaa
open Go.ChangeShapes Go.WideShapes Go.ChangeAt Go.RowKit Go.Proofs.Ytbpflcilndinfaa.Eng
set_option linter.unusedSimpArgs false
set_option linter.unusedVariables false

theorem cells3 : Try.prog.cellsOf 3 = 1 := by kernel_rfl
theorem cells100 : Try.prog.cellsOf 100 = 3 := by kernel_rfl
theorem int_list : ∀ {xs : List AVal}, (∀ y ∈ xs, HasV Try.prog 3 y) → ∃ l : List Int, xs = ints l
  | [], _ => ⟨[], rfl⟩
  | x :: xs, h => by
    obtain ⟨n, rfl, _⟩ := (h x (by simp)).int_inv Try.underlying3
    obtain ⟨l, rfl⟩ := int_list (xs := xs) fun y hy => h y (by simp [hy])
    exact ⟨n :: l, rfl⟩
theorem net_val {v : AVal} (h : HasV Try.prog 89 v) : ∃ l, DL l v := by
  rcases h.slice_inv Try.underlying89 with rfl | ⟨xs, rfl, _, hx⟩
  · exact ⟨[], .inl ⟨rfl, rfl⟩⟩
  · obtain ⟨l, rfl⟩ := int_list hx
    exact ⟨l, .inr (by rw [cells3])⟩
theorem range_has {x : AVal} (h : HasV Try.prog 32 x) : ∃ k : Kn, x = k.enc := by
  obtain ⟨vs, rfl, hl, hv⟩ := h.struct_inv Try.underlying32
  match vs, hl with
  | [a, b], _ =>
    obtain ⟨x, rfl, _⟩ := (hv 0 _ _ rfl rfl).int_inv Try.underlying3
    obtain ⟨y, rfl, _⟩ := (hv 1 _ _ rfl rfl).int_inv Try.underlying3
    exact ⟨(x, y), rfl⟩
theorem rd_has {x : AVal} (h : HasV Try.prog 100 x) : ∃ r : Rd, x = r.enc := by
  obtain ⟨vs, rfl, hl, hv⟩ := h.struct_inv Try.underlying100
  match vs, hl with
  | [a, b], _ =>
    obtain ⟨x, rfl, _⟩ := (hv 0 _ _ rfl rfl).int_inv Try.underlying3
    obtain ⟨k, rfl⟩ := range_has (hv 1 _ _ rfl rfl)
    exact ⟨(x, k.1, k.2), rfl⟩
theorem rd_list : ∀ {xs : List AVal}, (∀ y ∈ xs, HasV Try.prog 100 y) → ∃ l : List Rd, xs = rds l
  | [], _ => ⟨[], rfl⟩
  | x :: xs, h => by
    obtain ⟨s, rfl⟩ := rd_has (h x (by simp))
    obtain ⟨l, rfl⟩ := rd_list (xs := xs) fun y hy => h y (by simp [hy])
    exact ⟨s :: l, rfl⟩
theorem reads_val {v : AVal} (h : HasV Try.prog 90 v) : ∃ l, RL l v := by
  rcases h.slice_inv Try.underlying90 with rfl | ⟨xs, rfl, _, hx⟩
  · exact ⟨[], .inl ⟨rfl, rfl⟩⟩
  · obtain ⟨l, rfl⟩ := rd_list hx
    exact ⟨l, .inr (by rw [cells100])⟩
theorem gauges_val {v : AVal} (h : HasV Try.prog 92 v) : ∃ l w n, RL l w ∧ v = .agg [w, .int .i64 n] := by
  obtain ⟨vs, rfl, hl, hv⟩ := h.struct_inv Try.underlying92
  match vs, hl with
  | [a, b], _ =>
    obtain ⟨l, hw⟩ := reads_val (hv 0 _ _ rfl rfl)
    obtain ⟨n, rfl, _⟩ := (hv 1 _ _ rfl rfl).int_inv Try.underlying3
    refine ⟨l, a, n, hw, ?_⟩
    rcases hw with ⟨rfl, _⟩ | rfl <;> rfl

set_option maxRecDepth 100000 in
theorem two_law {w : World} (xs : List AVal) (args' : Array Value) (hx : HasAll Try.prog Try.f9.params.toList xs) (hr : ARel (ghostOf w) xs args') :
    Calls Try.prog 9 args' w fun e w' => e = .returned (.bool true) ∧ Below w.heap.size w w' := by
  rw [Try.params9] at hx
  have hlen := hx.len
  match xs, hlen with
  | [p, s, x], _ =>
    obtain ⟨a, u, ha, rfl⟩ := tab_val (hx.val 0 24 p rfl rfl)
    obtain ⟨net, hn⟩ := net_val (hx.val 1 89 s rfl rfl)
    obtain ⟨l, w, n, h, rfl⟩ := gauges_val (hx.val 2 92 x rfl rfl)
    have hf : freeL (stripL [.agg [u], s, .agg [w, .int .i64 n]]) = true := by simp [stripL, AVal.strip, freeL, AVal.free, ha.strip, ha.free, hn.strip, hn.free, h.strip, h.free]
    exact pure_calls (pure_of_run drawn hf (t9 lawC_code awake_run ha hn h n _)) hr

set_option maxRecDepth 100000 in
theorem two_lifted (os : Os) (started : os.Started) (H : Type) (enc : TypeId × Value → H) :
    ReturnsInHanded {} Try.checked os 9 .any (Rows.lakeTwoSpec.pre6 enc Try.prog Try.f9 Rows.lakeTwoRow.domain false) (Rows.lakeTwoSpec.post enc Try.prog Try.f9 false true false false) := by
  refine returnsInHanded_of_change (C := Try.checked) own started (by kernel_rfl) Try.func9
    (ChangeSpec.witness6 (enc := enc) (C := Try.checked) false ⟨#[], #[.agg #[.slice none 0 0], .slice none 0 0, .agg #[.slice none 0 0, .int .i64 0]], []⟩ 8 (by kernel_rfl) (by kernel_rfl) (by kernel_rfl) (by kernel_rfl)) ?_
  intro W base args ds gs before hval hW _ _
  exact law_contract (tb := 4) (by kernel_rfl) (by kernel_rfl) (by kernel_rfl) Try.underlying4 laid rowed sliced rfl
    (fun ds h => by
      rw [Try.params9] at h
      match ds, h with
      | [d1, d2, d3], _ => exact ⟨rfl, rfl, rfl⟩)
    (fun xs args' => two_law xs args') base args ds gs before hval hW

theorem two_holds : Rows.LakeTwoSaid :=
  OpenClaim.holds_of_wide 9 Try.f9 rfl rfl rfl rfl rfl rfl rfl ⟨rfl, rfl, rfl, rfl, rfl⟩ rfl rfl rfl rfl rfl (by kernel_rfl) Try.func9 (by kernel_rfl)
    (of_decide_eq_true (by kernel_rfl)) (by unfold Func.isWrapper; first | (rw [if_pos (by decide +kernel)]; kernel_rfl) | (rw [if_neg (by decide +kernel)]; exact ⟨rfl, rfl⟩))
    (fun os started H enc _ => two_lifted os started H enc)
end Go.Proofs.Ytbpflcilndinfaa
