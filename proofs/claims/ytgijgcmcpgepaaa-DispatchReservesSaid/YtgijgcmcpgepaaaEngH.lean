/-
  ENGINE, H: operations fit: appending.
-/
import Derived.Test.YtgijgcmcpgepaaaEngG
import Derived.Lib.AppendZeros
namespace Go.Proofs.Ytgijgcmcpgepaaa.Eng
set_option linter.unusedSimpArgs false
set_option linter.unusedVariables false
section
variable {P : Program} {G : Ghost} {σ : Store} {w : World} {tm : List AVal} {a : Act}

/-- A list as a row of cells. -/
theorem list_row {s : Nat} {xs : List AVal} {tok : Option Nat} {v : Value} (h : VRel G (.list s xs tok) v) (hs0 : 0 < s) (hne : xs ≠ []) :
    ∃ (b o cap : Nat) (vs : List Value), v = .slice (some ⟨b, o, none⟩) xs.length cap ∧ xs.length ≤ cap ∧ vs.length = xs.length * s ∧ (∀ (j : Nat) (u : Value), vs[j]? = some u → G.imm b (o + j) = some u) ∧
      (∀ (i : Nat) (x : AVal), xs[i]? = some x → x.cells.length = s) ∧
      (∀ (i : Nat) (x : AVal) (j : Nat) (c : AVal), xs[i]? = some x → x.cells[j]? = some c → ∃ u, vs[i * s + j]? = some u ∧ VRel G c u) ∧
      (∀ (j : Nat) (u : Value), vs[j]? = some u → ∃ (i : Nat) (x : AVal) (l : Nat) (c : AVal), xs[i]? = some x ∧ x.cells[l]? = some c ∧ VRel G c u) ∧
      (∀ k, tok = some k → o = 0 ∧ G.H k xs.length = some (b, cap)) := by
  cases h with
  | list0 s _ a cap => exact absurd rfl hne
  | list _ _ _ b o cap f hcap hs hI hv ht =>
    have key : ∀ q, q < xs.length * s → ∃ x c, xs[q / s]? = some x ∧ x.cells[q % s]? = some c := fun q hq => by
      have h1 : q / s < xs.length := Nat.div_lt_of_lt_mul (by rw [Nat.mul_comm]; exact hq)
      have h2 : q % s < s := Nat.mod_lt _ hs0
      have hx := List.getElem?_eq_getElem h1
      refine ⟨_, _, hx, List.getElem?_eq_getElem (by rw [hs _ _ hx]; exact h2)⟩
    have hdm : ∀ q, q / s * s + q % s = q := fun q => by rw [Nat.mul_comm]; exact Nat.div_add_mod q s
    refine ⟨b, o, cap, (List.range (xs.length * s)).map (fun q => f (q / s) (q % s)), rfl, hcap, by simp, fun j u hj => ?_, hs, fun i x j c hx hc => ?_, fun j u hj => ?_, ht⟩
    · have hjl := (List.getElem?_eq_some_iff.1 hj).1
      simp at hjl
      rw [List.getElem?_map, List.getElem?_range hjl] at hj
      simp at hj
      obtain ⟨x, c, h1, h2⟩ := key j hjl
      have := hI _ x _ c h1 h2
      rw [Nat.add_assoc, hdm] at this
      rw [this, hj]
    · have hi := (List.getElem?_eq_some_iff.1 hx).1
      have hjs : j < s := by have := (List.getElem?_eq_some_iff.1 hc).1; rw [hs i x hx] at this; exact this
      have hlt : i * s + j < xs.length * s := by
        have : (i + 1) * s ≤ xs.length * s := Nat.mul_le_mul_right s hi
        rw [Nat.succ_mul] at this; omega
      refine ⟨f i j, ?_, hv i x j c hx hc⟩
      have e1 : (i * s + j) / s = i := by rw [Nat.mul_comm, Nat.mul_add_div hs0, Nat.div_eq_of_lt hjs, Nat.add_zero]
      have e2 : (i * s + j) % s = j := by rw [Nat.mul_comm, Nat.mul_add_mod, Nat.mod_eq_of_lt hjs]
      rw [List.getElem?_map, List.getElem?_range hlt]
      simp only [Option.map_some, e1, e2]
    · have hjl := (List.getElem?_eq_some_iff.1 hj).1
      simp at hjl
      rw [List.getElem?_map, List.getElem?_range hjl] at hj
      simp at hj
      obtain ⟨x, c, h1, h2⟩ := key j hjl
      exact ⟨_, x, _, c, h1, h2, by rw [← hj]; exact hv _ x _ c h1 h2⟩

theorem moved_row {k len : Nat} {e : TypeId} {s : Nat} {σ' : Store} {G' : Ghost} {w' : World} (g1 : G'.ρ = G.ρ) (g2 : ∀ (k' l : Nat), k' ≠ k → G'.H k' l = G.H k' l) (g3 : Core G' (σ.get.put k (.tok e s len)) w') (g4 : Ext G σ.get w G' (σ.get.put k (.tok e s len)) w')
    (hs : (σ' = σ.put k (.tok e s len) ∧ ∃ o, σ.get k = some o) ∨ (σ' = σ.new (.tok e s len) ∧ k = σ.next)) : Moved G σ w G' σ' w' := by
  rcases hs with ⟨rfl, o, hk⟩ | ⟨rfl, rfl⟩
  · refine ⟨by rw [Store.get_put]; exact g3, by rw [Store.get_put]; exact g4, Nat.le_refl _, fun m _ hf => ?_⟩
    have hne : m ≠ k := by rintro rfl; rw [hf] at hk; cases hk
    exact ⟨by rw [g1], fun l => g2 m l hne, by rw [Store.get_put, Mem.put_ne _ (Ne.symm hne)]; exact hf⟩
  · refine ⟨by rw [Store.get_new]; exact g3, by rw [Store.get_new]; exact g4, Nat.le_succ _, fun m hm hf => ?_⟩
    have hne : m ≠ σ.next := by simp [Store.new] at hm; omega
    exact ⟨by rw [g1], fun l => g2 m l hne, by rw [Store.get_new, Mem.put_ne _ (Ne.symm hne)]; exact hf⟩

theorem zeroCells_size (z : Array Value) (n : Nat) : (Builtin.zeroCells z n).size = n * z.size := by simp [Builtin.zeroCells]

/-- What holds of the elements of two rows behind one another. -/
theorem two_rows {G' : Ghost} (le : G.le G') {s : Nat} {xs ys : List AVal} {vs us : List Value} (hl : vs.length = xs.length * s)
    (h1 : ∀ (i : Nat) (x : AVal) (j : Nat) (c : AVal), xs[i]? = some x → x.cells[j]? = some c → ∃ u, vs[i * s + j]? = some u ∧ VRel G c u)
    (h2 : ∀ (i : Nat) (x : AVal) (j : Nat) (c : AVal), ys[i]? = some x → x.cells[j]? = some c → ∃ u, us[i * s + j]? = some u ∧ VRel G c u) (rest : List Value) :
    ∀ (i : Nat) (x : AVal) (j : Nat) (c : AVal), (xs ++ ys)[i]? = some x → x.cells[j]? = some c → ∃ u, (vs ++ us ++ rest)[i * s + j]? = some u ∧ VRel G' c u := by
  intro i x j c hx hc
  by_cases hi : i < xs.length
  · rw [List.getElem?_append_left hi] at hx
    obtain ⟨u, k1, k2⟩ := h1 i x j c hx hc
    have := (List.getElem?_eq_some_iff.1 k1).1
    exact ⟨u, by rw [List.append_assoc, List.getElem?_append_left this]; exact k1, k2.mono le⟩
  · rw [List.getElem?_append_right (by omega)] at hx
    obtain ⟨u, k1, k2⟩ := h2 _ x j c hx hc
    have hlt := (List.getElem?_eq_some_iff.1 k1).1
    have e : i * s + j - vs.length = (i - xs.length) * s + j := by
      rw [hl, Nat.sub_mul]
      have : xs.length * s ≤ i * s := Nat.mul_le_mul_right s (by omega)
      omega
    have hle : vs.length ≤ i * s + j := by
      rw [hl]
      have : xs.length * s ≤ i * s := Nat.mul_le_mul_right s (by omega)
      omega
    refine ⟨u, ?_, k2.mono le⟩
    rw [List.append_assoc, List.getElem?_append_right hle, e, List.getElem?_append_left hlt]
    exact k1

theorem app_len {s : Nat} {xs ys : List AVal} (h1 : ∀ (i : Nat) (x : AVal), xs[i]? = some x → x.cells.length = s) (h2 : ∀ (i : Nat) (x : AVal), ys[i]? = some x → x.cells.length = s) :
    ∀ (i : Nat) (x : AVal), (xs ++ ys)[i]? = some x → x.cells.length = s := fun i x hx => by
  by_cases hi : i < xs.length
  · rw [List.getElem?_append_left hi] at hx; exact h1 i x hx
  · rw [List.getElem?_append_right (by omega)] at hx; exact h2 _ x hx

set_option maxHeartbeats 1000000 in
theorem append_idle (c : Core G σ.get w) {t ty e : TypeId} {i : TypeInfo} (ht : P.underlying t = some (.slice e)) (hi : P.info? e = some i)
    {x : AVal} {u v : Value} (hu : VRel G x u) : ∀ (b : Option Addr) (cap : Nat), v = .slice b 0 cap → x.isSlice = true → ∃ v' w' G', (Builtin.append_ #[t, t] ty #[u, v]).run P w = .ok v' w' ∧ VRel G' x v' ∧ Moved G σ w G' σ w' := by
    intro b cap hb hs
    refine ⟨u, w, G, ?_, hu, .refl c⟩
    subst hb
    have hsl : ∃ A n k, u = .slice A n k ∧ n ≤ k := by
      cases hu <;> first
        | (simp [AVal.isSlice] at hs; done)
        | exact ⟨_, _, _, rfl, Nat.le_refl _⟩
        | exact ⟨_, _, _, rfl, by assumption⟩
        | exact ⟨_, _, _, rfl, Nat.zero_le _⟩
    obtain ⟨A, n, k, rfl, hnk⟩ := hsl
    cases A <;> cases b <;> simp [Builtin.append_, run_underlying ht, sizeOf_run hi, Builtin.lenOf, Builtin.firstCells, loadCells, loadCellsFrom, hnk, storeCells]

/-- What is appended, as a row of cells. -/
structure YRow (G : Ghost) (w : World) (s : Nat) (ys : List AVal) (A : Addr) (us : List Value) : Prop where
  len : us.length = ys.length * s
  cell : ∀ (j : Nat) (q : Value), us[j]? = some q → w.cell? (A.add j) = some q
  cl : ∀ (i : Nat) (x : AVal), ys[i]? = some x → x.cells.length = s
  val : ∀ (i : Nat) (x : AVal) (j : Nat) (c : AVal), ys[i]? = some x → x.cells[j]? = some c → ∃ u, us[i * s + j]? = some u ∧ VRel G c u
  one : ∀ q ∈ us, q.oneCell' = true

theorem yrow_list (c : Core G σ.get w) {s : Nat} {ys : List AVal} {tok : Option Nat} {v : Value} (hv : VRel G (.list s ys tok) v) (hs0 : 0 < s) (hne : ys ≠ []) (hone : ones ys = true) :
    ∃ A cap us, v = .slice (some A) ys.length cap ∧ YRow G w s ys A us := by
  obtain ⟨b2, o2, cap2, us, rfl, hcap2, hul, huI, hucl, huv, huo, htok2⟩ := list_row hv hs0 hne
  refine ⟨_, _, us, rfl, hul, fun j q hj => ?_, hucl, huv, fun q hq => ?_⟩
  · rw [addr_add]; exact c.imm _ _ _ (huI j q hj)
  · obtain ⟨j, hj⟩ := List.mem_iff_getElem?.1 hq
    obtain ⟨i', x', l', c', e1, e2, e3⟩ := huo j q hj
    have h1 := List.all_eq_true.1 hone x' (List.mem_iff_getElem?.2 ⟨_, e1⟩)
    have h2 := List.all_eq_true.1 h1 c' (List.mem_iff_getElem?.2 ⟨_, e2⟩)
    exact one_rel e3 h2

theorem yrow_made (c : Core G σ.get w) {s n off len : Nat} {cs ys : List AVal} {v : Value} (hv : VRel G (.mlist s n off len) v) (hg : σ.get n = some (.cells cs)) (hs0 : 0 < s) (hle : off + len * s ≤ cs.length) {agg : Bool}
    (hl : chunks agg s len (cs.drop off) = some ys) (hone : ones ys = true) :
    ∃ A cap us, v = .slice (some A) ys.length cap ∧ YRow G w s ys A us := by
  obtain ⟨k1, k2⟩ := chunks_get _ _ _ hl
  cases hv with
  | mlist _ _ _ _ b cap hn hcap =>
    have hlen : len * s ≤ (cs.drop off).length := by simp; omega
    have hcell : ∀ (j : Nat) (y : AVal) (l : Nat) (cc : AVal), ys[j]? = some y → y.cells[l]? = some cc → cs[off + (j * s + l)]? = some cc := fun j y l cc hj hl' => by
      have hjn := (List.getElem?_eq_some_iff.1 hj).1
      have := ((chunk_cell hlen (by omega) (k2 j y hj)).2 l cc hl').2
      rw [List.getElem?_drop] at this
      exact this
    have hcl : ∀ (i : Nat) (x : AVal), ys[i]? = some x → x.cells.length = s := fun j y hj => by
      have hjn := (List.getElem?_eq_some_iff.1 hj).1
      exact (chunk_cell hlen (by omega) (k2 j y hj)).1
    let f : Nat → Value := fun j => (w.cell? ⟨b, off + j, none⟩).getD undef
    have hdm : ∀ q, q / s * s + q % s = q := fun q => by rw [Nat.mul_comm]; exact Nat.div_add_mod q s
    have key : ∀ q, q < ys.length * s → ∃ x cc, ys[q / s]? = some x ∧ x.cells[q % s]? = some cc ∧ w.cell? ⟨b, off + q, none⟩ = some (f q) ∧ VRel G cc (f q) := fun q hq => by
      have h1 : q / s < ys.length := Nat.div_lt_of_lt_mul (by rw [Nat.mul_comm]; exact hq)
      have h2 : q % s < s := Nat.mod_lt _ hs0
      have hx := List.getElem?_eq_getElem h1
      have hy := List.getElem?_eq_getElem (l := (ys[q / s]).cells) (i := q % s) (by rw [hcl _ _ hx]; exact h2)
      have hc := hcell _ _ _ _ hx hy
      rw [hdm] at hc
      obtain ⟨u, a1, a2⟩ := core_get c hg hn hc
      refine ⟨_, _, hx, hy, ?_, ?_⟩
      · simp only [f, a1]; rfl
      · simp only [f, a1]; exact a2
    refine ⟨⟨b, off, none⟩, cap, (List.range (ys.length * s)).map f, by rw [k1], ⟨by simp, fun j q hj => ?_, hcl, fun i x j cc hx hc => ?_, fun q hq => ?_⟩⟩
    · have hjl := (List.getElem?_eq_some_iff.1 hj).1
      simp at hjl
      rw [List.getElem?_map, List.getElem?_range hjl] at hj
      simp at hj
      obtain ⟨_, _, _, _, h3, _⟩ := key j hjl
      rw [addr_add, h3, hj]
    · have hi := (List.getElem?_eq_some_iff.1 hx).1
      have hjs : j < s := by have := (List.getElem?_eq_some_iff.1 hc).1; rw [hcl i x hx] at this; exact this
      have hlt : i * s + j < ys.length * s := by
        have : (i + 1) * s ≤ ys.length * s := Nat.mul_le_mul_right s hi
        rw [Nat.succ_mul] at this; omega
      have e1 : (i * s + j) / s = i := by rw [Nat.mul_comm, Nat.mul_add_div hs0, Nat.div_eq_of_lt hjs, Nat.add_zero]
      have e2 : (i * s + j) % s = j := by rw [Nat.mul_comm, Nat.mul_add_mod, Nat.mod_eq_of_lt hjs]
      obtain ⟨x', cc', h1, h2, h3, h4⟩ := key _ hlt
      rw [e1, hx] at h1; cases h1
      rw [e2, hc] at h2; cases h2
      exact ⟨f (i * s + j), by rw [List.getElem?_map, List.getElem?_range hlt]; rfl, h4⟩
    · obtain ⟨j, hj⟩ := List.mem_iff_getElem?.1 hq
      have hjl := (List.getElem?_eq_some_iff.1 hj).1
      simp at hjl
      rw [List.getElem?_map, List.getElem?_range hjl] at hj
      simp at hj
      obtain ⟨x', cc', h1, h2, h3, h4⟩ := key j hjl
      rw [hj] at h4
      have g1 := List.all_eq_true.1 hone x' (List.mem_iff_getElem?.2 ⟨_, h1⟩)
      have g2 := List.all_eq_true.1 g1 cc' (List.mem_iff_getElem?.2 ⟨_, h2⟩)
      exact one_rel h4 g2

theorem appendM_rel (c : Core G σ.get w) {t ty e : TypeId} {i : TypeInfo} {z : Value} (ht : P.underlying t = some (.slice e)) (hi : P.info? e = some i) (hz : i.zero = some z) (hzs : z.cells.size = i.size) (hs0 : 0 < i.size)
    {x : AVal} {ys : List AVal} {u v : Value} (hu : VRel G x u) (hv : ys ≠ [] → ∃ A cap us, v = .slice (some A) ys.length cap ∧ YRow G w i.size ys A us) (hv0 : ys = [] → ∃ b cap, v = .slice b 0 cap) {r : AVal} {σ' : Store} (h : xappendM σ e i.size i.bytes x ys = some (r, σ')) (hf : News G σ σ'.next) :
    ∃ v' w' G', (Builtin.append_ #[t, t] ty #[u, v]).run P w = .ok v' w' ∧ VRel G' r v' ∧ Moved G σ w G' σ' w' := by
  unfold xappendM at h
  split at h
  · split at h <;> try (cases h; done)
    rename_i hs
    cases h
    obtain ⟨b, cap, hb⟩ := hv0 rfl
    exact append_idle c ht hi hu b cap hb hs
  · rename_i y0 yr
    generalize hys : y0 :: yr = ys at *
    have hm0 : 0 < ys.length := by rw [← hys]; simp
    have hne : ys ≠ [] := by rw [← hys]; simp
    clear hys
    obtain ⟨A2, cap2, us, rfl, hul, hucell, hucl, huv, huone⟩ := hv hne
    split at h <;> try (cases h; done)
    · split at h <;> try (cases h; done)
      rename_i hb
      cases h
      cases hu
      have hrun := run_append_nil (P := P) w t ty e i z ht hi hz A2 ys.length cap2 us hul hucell hm0 (by omega) (by omega)
      have hge := grownCap_ge w ys.length 0 e
      obtain ⟨G', g1, g2, _, g3, g4, g5, g6⟩ := core_row c.drew (k := σ.next) (len := ys.length) (fun l _ => (hf _ (Nat.le_refl _) (Nat.lt_succ_self _)).H l) e i.size (grownCap w ys.length 0 e) (us.toArray ++ Builtin.zeroCells z.cells (grownCap w ys.length 0 e - ys.length))
        (by rw [Array.size_append, zeroCells_size, List.size_toArray, hul, hzs, ← Nat.add_mul]; congr 1; omega) hge
      have g4' := Ext.drewL g4
      refine ⟨_, _, G', hrun, ?_, moved_row g1 g2 g3 g4' (.inr ⟨rfl, rfl⟩)⟩
      have hsz : w.drew.heap.size = w.heap.size := rfl
      rw [hsz] at g5 g6
      refine list_of_row _ hge g5 hucl g6 (fun i' x' j' c' e1 e2 => ?_)
      obtain ⟨q, k1, k2⟩ := two_rows (G := G) (xs := []) (vs := []) g4'.le (s := i.size) (by simp) (fun _ _ _ _ h => by simp at h) huv (Builtin.zeroCells z.cells (grownCap w ys.length 0 e - ys.length)).toList i' x' j' c' (by simpa using e1) e2
      refine ⟨q, ?_, k2⟩
      rw [← Array.getElem?_toList]
      simpa using k1
    · rename_i s2 xs k
      split at h <;> try (cases h; done)
      rename_i hb
      obtain ⟨rfl, hb1, hb2⟩ := hb
      split at h <;> try (cases h; done)
      rename_i e' s' len hg
      split at h <;> try (cases h; done)
      rename_i heq
      obtain ⟨rfl, rfl, rfl⟩ := heq
      cases h
      have hlen : (xs ++ ys).length = xs.length + ys.length := by simp
      have hH1 : Grows G k (xs.length + ys.length) := by
        rcases c.obj k _ hg with ⟨_, z2⟩ | ⟨b0, cap0, c0, k1, k2, k3, k4, k5, k6⟩
        · exact fun l _ => z2 l
        · exact fun l hl => k6 l (by omega)
      -- the list as a row
      have hx : ∃ (A : Addr) (cap1 : Nat) (vs : List Value), u = .slice (some A) xs.length cap1 ∧ vs.length = xs.length * i.size ∧ (∀ (j : Nat) (q : Value), vs[j]? = some q → w.cell? (A.add j) = some q) ∧
          (∀ (i' : Nat) (x : AVal), xs[i']? = some x → x.cells.length = i.size) ∧ (∀ (i' : Nat) (x : AVal) (j : Nat) (cc : AVal), xs[i']? = some x → x.cells[j]? = some cc → ∃ q, vs[i' * i.size + j]? = some q ∧ VRel G cc q) ∧
          (cap1 = 0 ∨ ∃ b1, A = ⟨b1, 0, none⟩ ∧ G.H k xs.length = some (b1, cap1) ∧ ∀ (j : Nat) (q : Value), vs[j]? = some q → G.imm b1 j = some q) := by
        by_cases hxe : xs = []
        · subst hxe
          cases hu with
          | list0 _ _ A cap ht0 => exact ⟨A, cap, [], rfl, by simp, fun j q h => by simp at h, fun _ _ h => by simp at h, fun _ _ _ _ h => by simp at h, .inl (ht0 k rfl)⟩
          | list _ _ _ b o cap f hcap hs hI hv ht1 =>
            obtain ⟨rfl, hH⟩ := ht1 k rfl
            exact ⟨⟨b, 0, none⟩, cap, [], rfl, by simp, fun j q h => by simp at h, fun _ _ h => by simp at h, fun _ _ _ _ h => by simp at h, .inr ⟨b, rfl, hH, fun j q h => by simp at h⟩⟩
        · obtain ⟨b1, o1, cap1, vs, rfl, hcap1, hvl, hvI, hvcl, hvv, hvo, htok⟩ := list_row hu hs0 hxe
          obtain ⟨rfl, hH⟩ := htok k rfl
          exact ⟨⟨b1, 0, none⟩, cap1, vs, rfl, hvl, fun j q hj => by rw [addr_add]; exact c.imm _ _ _ (hvI j q hj), hvcl, hvv, .inr ⟨b1, rfl, hH, fun j q hj => by have := hvI j q hj; rw [Nat.zero_add] at this; exact this⟩⟩
      obtain ⟨A, cap1, vs, rfl, hvl, hvcell, hvcl, hvv, hkind⟩ := hx
      by_cases hroom : xs.length + ys.length ≤ cap1
      · rcases hkind with h0 | ⟨b1, rfl, hH, hvI⟩
        · omega
        rcases c.obj k _ hg with ⟨_, z2⟩ | ⟨b0, cap0, c0, k1, k2, k3, k4, k5, k6⟩
        · rw [z2] at hH; cases hH
        rw [hH] at k1
        obtain ⟨rfl, rfl⟩ : b1 = b0 ∧ cap1 = cap0 := by cases k1; exact ⟨rfl, rfl⟩
        have hvs : ∀ (j : Nat) (q : Value), vs[j]? = some q → c0[j]? = some q := fun j q hj => by
          have := c.imm _ _ _ (hvI j q hj)
          rw [cell_of_heap k2] at this
          exact this
        have hfit : xs.length * i.size + us.length ≤ c0.size := by
          rw [hul, k3, ← Nat.add_mul]; exact Nat.mul_le_mul_right _ hroom
        have hrun := run_append_room (P := P) w t ty e' i ht hi b1 xs.length cap1 c0 k2 A2 ys.length cap2 us hul hucell huone hroom hfit
        generalize hc' : (c0.toList.take (xs.length * i.size) ++ us ++ c0.toList.drop (xs.length * i.size + us.length)).toArray = c' at hrun
        have htake : c0.toList.take (xs.length * i.size) = vs := by
          apply List.ext_getElem?
          intro j
          by_cases hj : j < xs.length * i.size
          · rw [List.getElem?_take_of_lt hj, Array.getElem?_toList, hvs j vs[j] (List.getElem?_eq_getElem (by omega)), List.getElem?_eq_getElem (by omega)]
          · rw [List.getElem?_eq_none (by simp; omega), List.getElem?_eq_none (by omega)]
        rw [htake] at hc'
        have hsz : c'.size = c0.size := by
          rw [← hc']; simp; omega
        obtain ⟨G', g1, g2, _, g3, g4, g5, g6⟩ := core_push (w' := w.setRow b1 c') c hg hH hH1 k2 (by omega) hroom hsz (fun q hq => by
            rw [← hc', List.getElem?_toArray, List.append_assoc, List.getElem?_append_left (by omega)]
            rw [← htake, List.getElem?_take_of_lt hq, Array.getElem?_toList]) (setRow_heap w b1 c0 c' e' _ k2) (fun b' hb' => setRow_other w b1 b' c' hb') rfl rfl rfl (by simp [World.setRow])
        refine ⟨_, _, G', hrun, ?_, moved_row g1 g2 g3 g4 (.inl ⟨rfl, _, hg⟩)⟩
        rw [← hlen] at g5 g6 hroom ⊢
        refine list_of_row c' hroom g5 (app_len hvcl hucl) g6 (fun i' x' j' c' e1 e2 => ?_)
        obtain ⟨q, q1, q2⟩ := two_rows (G := G) g4.le hvl hvv huv (c0.toList.drop (xs.length * i.size + us.length)) i' x' j' c' e1 e2
        exact ⟨q, by rw [← hc', List.getElem?_toArray]; exact q1, q2⟩
      · have hrun := run_append_grow (P := P) w t ty e' i z ht hi hz A xs.length cap1 vs hvl hvcell A2 ys.length cap2 us hul hucell (by omega) (by omega) (growslice_fits (by omega) (by omega))
        have hge := grownCap_ge w (xs.length + ys.length) cap1 e'
        obtain ⟨G', g1, g2, _, g3, g4, g5, g6⟩ := core_row c.drew hH1 e' i.size (grownCap w (xs.length + ys.length) cap1 e') (vs.toArray ++ us.toArray ++ Builtin.zeroCells z.cells (grownCap w (xs.length + ys.length) cap1 e' - (xs.length + ys.length)))
          (by rw [Array.size_append, Array.size_append, zeroCells_size, List.size_toArray, List.size_toArray, hul, hvl, hzs, ← Nat.add_mul, ← Nat.add_mul]; congr 1; omega) hge
        have g4' := Ext.drewL g4
        refine ⟨_, _, G', hrun, ?_, moved_row g1 g2 g3 g4' (.inl ⟨rfl, _, hg⟩)⟩
        have hsz : w.drew.heap.size = w.heap.size := rfl
        rw [hsz] at g5 g6
        rw [← hlen] at g5 g6 hge ⊢
        refine list_of_row _ hge g5 (app_len hvcl hucl) g6 (fun i' x' j' c' e1 e2 => ?_)
        obtain ⟨q, q1, q2⟩ := two_rows (G := G) g4'.le hvl hvv huv (Builtin.zeroCells z.cells (grownCap w (xs ++ ys).length cap1 e' - (xs ++ ys).length)).toList i' x' j' c' e1 e2
        refine ⟨q, ?_, q2⟩
        rw [← Array.getElem?_toList]
        simpa using q1

theorem append_rel (c : Core G σ.get w) {t ty e : TypeId} {i : TypeInfo} {z : Value} (ht : P.underlying t = some (.slice e)) (hi : P.info? e = some i) (hz : i.zero = some z) (hzs : z.cells.size = i.size)
    {x y : AVal} {u v : Value} (hu : VRel G x u) (hv : VRel G y v) {r : AVal} {σ' : Store} (h : xappend σ e i.size i.bytes x y = some (r, σ')) (hf : News G σ σ'.next) :
    ∃ v' w' G', (Builtin.append_ #[t, t] ty #[u, v]).run P w = .ok v' w' ∧ VRel G' r v' ∧ Moved G σ w G' σ' w' := by
  unfold xappend at h
  split at h <;> try (cases h; done)
  · rename_i s' n off len
    split at h <;> try (cases h; done)
    rename_i cs hg
    split at h <;> try (cases h; done)
    rename_i hc
    obtain ⟨rfl, hs0, hle⟩ := hc
    split at h <;> try (cases h; done)
    rename_i ys hl
    split at h <;> try (cases h; done)
    rename_i hone
    refine appendM_rel c ht hi hz hzs hs0 hu (fun _ => yrow_made c hv hg hs0 hle hl hone) (fun h0 => ?_) h hf
    obtain ⟨k1, _⟩ := chunks_get _ _ _ hl
    subst h0
    simp at k1
    subst k1
    cases hv with
    | mlist => exact ⟨_, _, rfl⟩
  · split at h <;> try (cases h; done)
    rename_i hs
    cases h
    cases hv
    exact append_idle c ht hi hu _ _ rfl hs
  · rename_i s' ys tok'
    split at h <;> try (cases h; done)
    rename_i hc
    obtain ⟨rfl, hs0, hone⟩ := hc
    have h' : xappendM σ e i.size i.bytes x ys = some (r, σ') := by
      unfold xappendM
      cases ys <;> exact h
    refine appendM_rel c ht hi hz hzs hs0 hu (fun hne => yrow_list c hv hs0 hne hone) (fun h0 => ?_) h' hf
    subst h0
    cases hv with
    | list0 => exact ⟨_, _, rfl⟩
    | list => exact ⟨_, _, rfl⟩

/-- The cells of a list, one after the other. -/
theorem flat_get {s : Nat} (hs0 : 0 < s) : ∀ (xs : List AVal), (∀ (i : Nat) (x : AVal), xs[i]? = some x → x.cells.length = s) → (xs.flatMap AVal.cells).length = xs.length * s ∧
    ∀ (q : Nat) (c : AVal), (xs.flatMap AVal.cells)[q]? = some c → ∃ x, xs[q / s]? = some x ∧ x.cells[q % s]? = some c
  | [], _ => ⟨by simp, fun q c h => by simp at h⟩
  | x :: xs, h => by
    obtain ⟨k1, k2⟩ := flat_get hs0 xs (fun i y hy => h (i + 1) y (by simpa using hy))
    have hx := h 0 x (by simp)
    refine ⟨by simp only [List.flatMap_cons, List.length_append, k1, hx, List.length_cons, Nat.succ_mul]; omega, fun q c hq => ?_⟩
    rw [List.flatMap_cons] at hq
    by_cases hl : q < s
    · rw [List.getElem?_append_left (by omega)] at hq
      refine ⟨x, by rw [Nat.div_eq_of_lt hl]; rfl, by rw [Nat.mod_eq_of_lt hl]; exact hq⟩
    · rw [List.getElem?_append_right (by omega), hx] at hq
      obtain ⟨y, e1, e2⟩ := k2 _ _ hq
      obtain ⟨p, rfl⟩ : ∃ p, q = p + s := ⟨q - s, by omega⟩
      rw [Nat.add_sub_cancel] at e1 e2
      refine ⟨y, ?_, by rw [Nat.add_mod_right]; exact e2⟩
      rw [Nat.add_div_right _ hs0]
      simpa using e1

theorem ok_copy (c : At G σ w tm a) {o : Oper} {p q : Operand} {x y : XOpd} {t e : TypeId} {ts : List TypeId} {i : TypeInfo} {cl : Call} (ho : o.op = .call cl) (hc : cl.callee = .builtin .copy) (ha : cl.args = #[p, q]) (hat : cl.argTypes = (t :: ts).toArray)
    (ht : P.underlying t = some (.slice e)) (hi : P.info? e = some i) (hp : OFit p x) (hq : OFit q y) {r : XRes} (hx : xop (.copy i.size x y) tm σ = some r) : OpOk P o a G σ w r := by
  have h1 := (hp.rel c.rel).down
  have h2 := (hq.rel c.rel).down
  simp only [xop] at hx
  split at hx <;> try (cases hx; done)
  rename_i sx n off len e1
  split at hx <;> try (cases hx; done)
  rename_i cs hg
  split at hx <;> try (cases hx; done)
  rename_i hcond
  obtain ⟨hs0, hle⟩ := hcond
  rw [e1] at h1
  generalize hu : a.eval p = u at h1
  generalize hv : a.eval q = v at h2
  cases h1 with
  | mlist _ _ _ _ b cap hn hcap =>
  have fin : ∀ (A : Option Addr) (m cap2 k : Nat) (l : List AVal) (vs : Array Value), v = .slice A m cap2 → k = Nat.min m len → (Builtin.firstCells i.size k v).run P w = .ok vs w → ARel G l vs → l.all AVal.one = true → l.length ≤ len * i.size →
      OpOk P o a G σ w (.val (.int .i64 (k : Nat)) (σ.put n (.cells (setR cs off l)))) := by
    intro A m cap2 k l vs hv' hk hcells hr hone hl
    obtain ⟨w', s1, s2⟩ := store_rel (P := P) hn l vs.toList off cs σ w c.core hg (by simpa using hr) hone (by omega) off (Nat.le_refl _)
    rw [Nat.sub_self] at s1
    refine ⟨.int .i64 k, w', G, .inl ?_, .int _ _, s2⟩
    subst hv'
    simp [execOp, ho, resolve, hc, ha, hat, invoke, builtin, hu, hv, Builtin.copy_, run_underlying ht, sizeOf_run hi, Builtin.lenOf, ← hk, hcells, s1, goInt]
  split at hx <;> try (cases hx; done)
  · rename_i e2
    cases hx
    rw [e2] at h2; cases h2
    have := fin none 0 0 0 [] #[] rfl (by simp) rfl ⟨rfl, fun _ _ _ h => by simp at h⟩ rfl (by simp)
    have e : (σ.put n (.cells (setR cs off []))).get = σ.get := by simp only [setR]; exact put_same hg
    obtain ⟨v', w', G', j1, j2, j3⟩ := this
    exact ⟨v', w', G', j1, j2, ⟨by have := j3.core; rwa [e] at this, by have := j3.ext; rwa [e] at this, j3.next, fun k hk hf => by have := j3.other k hk hf; rwa [e] at this⟩⟩
  · rename_i s2 ys tok e2
    split at hx <;> try (cases hx; done)
    rename_i hcond2
    obtain ⟨rfl, hone⟩ := hcond2
    cases hx
    rw [e2] at h2
    by_cases hye : ys = []
    · subst hye
      have : ∃ A cap, v = .slice (some A) 0 cap := by
        cases h2 with
        | list0 => exact ⟨_, _, rfl⟩
        | list => exact ⟨_, _, rfl⟩
      obtain ⟨A, cap2, rfl⟩ := this
      have := fin (some A) 0 cap2 0 [] #[] rfl (by simp) (by simp [Builtin.firstCells, loadCells, loadCellsFrom]) ⟨rfl, fun _ _ _ h => by simp at h⟩ rfl (by simp)
      simpa using this
    · obtain ⟨A, cap2, us, rfl, hul, hucell, hucl, huv, huone⟩ := yrow_list c.core h2 hs0 hye hone
      have htl : (ys.take len).length = min ys.length len := by rw [List.length_take]; exact Nat.min_comm _ _
      obtain ⟨f1, f2⟩ := flat_get hs0 (ys.take len) (fun j y hy => by
        have hj := (List.getElem?_eq_some_iff.1 hy).1
        rw [htl] at hj
        rw [List.getElem?_take_of_lt (by omega)] at hy
        exact hucl j y hy)
      rw [htl] at f1
      have hmin : min ys.length len * i.size ≤ ys.length * i.size := Nat.mul_le_mul_right _ (Nat.min_le_left _ _)
      refine fin (some A) ys.length cap2 (min ys.length len) _ (us.take (min ys.length len * i.size)).toArray rfl rfl ?_ ⟨by simp [f1]; omega, fun j y q hj hq' => ?_⟩ ?_ (by rw [f1]; exact Nat.mul_le_mul_right _ (Nat.min_le_right _ _))
      · simp only [Builtin.firstCells]
        have := run_loadCells_list (P := P) w A (us.take (min ys.length len * i.size)) (fun j q hj => hucell j q (by
          have hjl := (List.getElem?_eq_some_iff.1 hj).1
          simp at hjl
          rw [List.getElem?_take_of_lt (by omega)] at hj; exact hj))
        rw [show (us.take (min ys.length len * i.size)).length = min ys.length len * i.size from by simp; omega] at this
        exact this
      · have hjl := (List.getElem?_eq_some_iff.1 hj).1
        rw [f1] at hjl
        obtain ⟨y', g1, g2⟩ := f2 j y hj
        have hlt : j / i.size < len := by
          have := (List.getElem?_eq_some_iff.1 g1).1
          rw [htl] at this; omega
        rw [List.getElem?_take_of_lt hlt] at g1
        obtain ⟨q', g3, g4⟩ := huv _ _ _ _ g1 g2
        rw [show j / i.size * i.size + j % i.size = j from by rw [Nat.mul_comm]; exact Nat.div_add_mod j _] at g3
        rw [List.getElem?_toArray, List.getElem?_take_of_lt hjl, g3] at hq'
        cases hq'
        exact g4
      · refine List.all_eq_true.2 fun y hy => ?_
        obtain ⟨x', g1, g2⟩ := List.mem_flatMap.1 hy
        exact List.all_eq_true.1 (List.all_eq_true.1 hone x' (List.mem_of_mem_take g1)) y g2
  · rename_i s2 n2 off2 len2 e2
    split at hx <;> try (cases hx; done)
    rename_i cs2 hg2
    split at hx <;> try (cases hx; done)
    rename_i hcond2
    obtain ⟨hle2, hone⟩ := hcond2
    cases hx
    rw [e2] at h2
    cases h2 with
    | mlist _ _ _ _ b2 cap2 hn2 hcap2 =>
      have hmin : min len2 len * i.size ≤ len2 * i.size := Nat.mul_le_mul_right _ (Nat.min_le_left _ _)
      obtain ⟨vs, j1, j2⟩ := load_rel (P := P) (b := b2) (o := 0) (off := off2) (n := min len2 len * i.size) (cs := cs2) (G := G) (w := w) (fun j cc hj => by
        obtain ⟨u, a1, a2⟩ := core_get c.core hg2 hn2 hj
        exact ⟨u, by rw [Nat.zero_add]; exact a1, a2⟩) (by omega)
      rw [Nat.zero_add] at j1
      exact fin (some ⟨b2, off2, none⟩) len2 cap2 (min len2 len) _ vs rfl rfl (by simpa [Builtin.firstCells] using j1) j2 hone (by simp; exact Nat.le_trans (Nat.min_le_left _ _) (Nat.mul_le_mul_right _ (Nat.min_le_right _ _)))

/-- The cells of what is appended. -/
theorem yrow_flat {ys : List AVal} {s : Nat} {A : Addr} {us : List Value} (hs0 : 0 < s) (hy : YRow G w s ys A us) : (ys.flatMap AVal.cells).length = us.length ∧ ∀ (q : Nat) (c : AVal) (v : Value), (ys.flatMap AVal.cells)[q]? = some c → us[q]? = some v → VRel G c v := by
  obtain ⟨k1, k2⟩ := flat_get hs0 ys hy.cl
  refine ⟨by rw [k1, hy.len], fun q c v hc hv => ?_⟩
  obtain ⟨x, e1, e2⟩ := k2 q c hc
  obtain ⟨u, e3, e4⟩ := hy.val _ _ _ _ e1 e2
  have : q / s * s + q % s = q := by rw [Nat.mul_comm]; exact Nat.div_add_mod q s
  rw [this, hv] at e3
  cases e3; exact e4
theorem moved_gone (h : Core G σ.get w) {n : Nat} {o : NObj} (hg : σ.get n = some o) : Moved G σ w G (σ.put n .gone) w := by
  obtain ⟨h1, h2⟩ := core_gone h n
  refine ⟨by rw [Store.get_put]; exact h1, by rw [Store.get_put]; exact h2, Nat.le_refl _, fun m hm hfr => ⟨rfl, fun _ => rfl, ?_⟩⟩
  have hne : n ≠ m := by rintro rfl; rw [hfr] at hg; cases hg
  rw [Store.get_put, Mem.put_ne _ hne]; exact hfr
theorem moved_newV (h : Core G σ.get w) (hf : Fresh G σ.get σ.next) {cs : List AVal} {c : Array Value} (hr : PRel G cs c) (e : TypeId) :
    ∃ G', Moved G σ w G' (σ.new (.cells cs)) (w.alloc (.cells c e)) ∧ G'.ρ σ.next = some w.heap.size ∧ G'.H σ.next 0 = some (c.size, e) := by
  obtain ⟨h1, h2, h3, h4⟩ := core_newV h hf hr e
  refine ⟨_, ⟨by rw [Store.get_new]; exact h1, by rw [Store.get_new]; exact h2, Nat.le_succ _, fun m hm hfr => ⟨?_, fun l => ?_, ?_⟩⟩, h3, h4⟩
  · have hne : m ≠ σ.next := by simp [Store.new] at hm; omega
    simp [Ghost.withRho, Ghost.withH, hne]
  · have hne : m ≠ σ.next := by simp [Store.new] at hm; omega
    simp [Ghost.withRho, Ghost.withH, hne]
  · have hne : σ.next ≠ m := by simp [Store.new] at hm; omega
    rw [Store.get_new, Mem.put_ne _ hne]; exact hfr
/-- A new row, with room, of what there was and what comes. -/
theorem grow_rel (c : Core G σ.get w) (hf : Fresh G σ.get σ.next) {s : Nat} (hs0 : 0 < s) {cs : List AVal} {vs : List Value} (hvl : vs.length = cs.length) (hvv : ∀ (q : Nat) (x : AVal) (v : Value), cs[q]? = some x → vs[q]? = some v → VRel G x v)
    {ys : List AVal} {A : Addr} {us : List Value} (hy : YRow G w s ys A us) (z : Array Value) (e n cap : Nat) (hn : cs.length + us.length = n * s) (hcap : n ≤ cap) (hz : z.size = s) :
    ∃ G', VRel G' (.vlist e s σ.next n) (.slice (some ⟨w.heap.size, 0, none⟩) n cap) ∧ Moved G σ w G' (σ.new (.cells (cs ++ ys.flatMap AVal.cells))) (w.drew.alloc (.cells (vs.toArray ++ us.toArray ++ Builtin.zeroCells z (cap - n)) e)) := by
  obtain ⟨f1, f2⟩ := yrow_flat hs0 hy
  have hsz : (vs.toArray ++ us.toArray ++ Builtin.zeroCells z (cap - n)).size = cap * s := by
    rw [Array.size_append, Array.size_append, zeroCells_size, List.size_toArray, List.size_toArray, hvl, hn, hz, ← Nat.add_mul]; congr 1; omega
  have hp : PRel G (cs ++ ys.flatMap AVal.cells) (vs.toArray ++ us.toArray ++ Builtin.zeroCells z (cap - n)) := by
    refine ⟨by rw [hsz, List.length_append, f1, hn]; exact Nat.mul_le_mul_right s hcap, fun q x v hx hv => ?_⟩
    rw [← Array.getElem?_toList] at hv
    simp only [Array.toList_append, List.append_assoc] at hv
    by_cases hq : q < cs.length
    · rw [List.getElem?_append_left hq] at hx
      rw [List.getElem?_append_left (by omega)] at hv
      exact hvv q x v hx hv
    · rw [List.getElem?_append_right (by omega)] at hx
      rw [List.getElem?_append_right (by omega), hvl] at hv
      have hlt := (List.getElem?_eq_some_iff.1 hx).1
      rw [List.getElem?_append_left (by omega)] at hv
      exact f2 _ x v hx hv
  obtain ⟨G', m, r1, r2⟩ := moved_newV (w := w.drew) c.drew hf hp e
  refine ⟨G', ?_, ⟨m.core, Ext.drewL m.ext, m.next, m.other⟩⟩
  have hh : w.drew.heap.size = w.heap.size := rfl
  rw [hh] at r1
  exact .vlist e s σ.next n w.heap.size cap _ r1 r2 hcap (by rw [hsz]; exact Nat.le_refl _)
/-- What comes is written into the room. -/
theorem room_rel (c : Core G σ.get w) {n : Nat} {o : NObj} (hg : σ.get n = some o) (hf : Fresh G σ.get σ.next) {s b cap e len : Nat} (hs0 : 0 < s) {c0 : Array Value} (ho : Own G σ.get n b) (himm : ∀ o, G.imm b o = none) (hb : w.heap[b]? = some (.cells c0 e (0, 0))) {cs : List AVal} (hcs : cs.length = len * s) (hr : PRel G cs c0)
    {ys : List AVal} {A : Addr} {us : List Value} (hy : YRow G w s ys A us) (hroom : len + ys.length ≤ cap) (hfit : cap * s ≤ c0.size) (c' : Array Value) (hc' : c' = (c0.toList.take (len * s) ++ us ++ c0.toList.drop (len * s + us.length)).toArray) :
    ∃ G', VRel G' (.vlist e s σ.next (len + ys.length)) (.slice (some ⟨b, 0, none⟩) (len + ys.length) cap) ∧ Moved G σ w G' ((σ.put n .gone).new (.cells (cs ++ ys.flatMap AVal.cells))) (w.setRow b c') := by
  obtain ⟨f1, f2⟩ := yrow_flat hs0 hy
  have hul := hy.len
  have h1 : len * s + us.length ≤ c0.size := by
    rw [hul, ← Nat.add_mul]; exact Nat.le_trans (Nat.mul_le_mul_right s hroom) hfit
  have hsz : c'.size = c0.size := by rw [hc']; simp; omega
  have hp : PRel G (cs ++ ys.flatMap AVal.cells) c' := by
    refine ⟨by rw [hsz, List.length_append, f1, hcs]; exact h1, fun q x v hx hv => ?_⟩
    rw [hc', List.getElem?_toArray, List.append_assoc] at hv
    have ht : (c0.toList.take (len * s)).length = len * s := by simp; omega
    by_cases hq : q < cs.length
    · rw [List.getElem?_append_left hq] at hx
      rw [List.getElem?_append_left (by omega), List.getElem?_take_of_lt (by omega), Array.getElem?_toList] at hv
      exact hr.val q x v hx hv
    · rw [List.getElem?_append_right (by omega)] at hx
      rw [List.getElem?_append_right (by omega), ht, ← hcs] at hv
      have hlt := (List.getElem?_eq_some_iff.1 hx).1
      rw [List.getElem?_append_left (by omega)] at hv
      exact f2 _ x v hx hv
  obtain ⟨k1, k2, k3, k4⟩ := core_pushV (w' := w.setRow b c') c ho himm hb hf hp hsz (setRow_heap w b c0 c' e _ hb) (fun b' hb' => setRow_other w b b' c' hb') rfl rfl rfl (by simp [World.setRow])
  refine ⟨_, .vlist e s σ.next _ b cap _ k3 k4 hroom hfit, ⟨?_, ?_, Nat.le_succ _, fun m hm hfr => ⟨?_, fun l => ?_, ?_⟩⟩⟩
  · rw [Store.get_new, Store.get_put]; exact k1
  · rw [Store.get_new, Store.get_put]; exact k2
  · have hne : m ≠ σ.next := by simp [Store.new, Store.put] at hm; omega
    simp [Ghost.withRho, Ghost.withH, hne]
  · have hne : m ≠ σ.next := by simp [Store.new, Store.put] at hm; omega
    simp [Ghost.withRho, Ghost.withH, hne]
  · have hne : σ.next ≠ m := by simp [Store.new, Store.put] at hm; omega
    have hne2 : n ≠ m := by rintro rfl; rw [hfr] at hg; cases hg
    rw [Store.get_new, Store.get_put]
    show ((σ.get.put n .gone).put σ.next _) m = none
    rw [Mem.put_ne _ hne, Mem.put_ne _ hne2]; exact hfr

theorem appendW_rel (c : Core G σ.get w) {t ty e : TypeId} {i : TypeInfo} {z : Value} (ht : P.underlying t = some (.slice e)) (hi : P.info? e = some i) (hz : i.zero = some z) (hzs : z.cells.size = i.size) (hs0 : 0 < i.size)
    {x : AVal} {ys : List AVal} {u v : Value} (hu : VRel G x u) (hv : ys ≠ [] → ∃ A cap us, v = .slice (some A) ys.length cap ∧ YRow G w i.size ys A us) (hv0 : ys = [] → ∃ b cap, v = .slice b 0 cap) {r : AVal} {σ' : Store} (h : xappendW σ e i.size i.bytes x ys = some (r, σ')) (hf : News G σ σ'.next) :
    ∃ v' w' G', (Builtin.append_ #[t, t] ty #[u, v]).run P w = .ok v' w' ∧ VRel G' r v' ∧ Moved G σ w G' σ' w' := by
  unfold xappendW at h
  split at h
  · split at h <;> try (cases h; done)
    rename_i hs
    cases h
    obtain ⟨b, cap, hb⟩ := hv0 rfl
    exact append_idle c ht hi hu b cap hb hs
  · rename_i y0 yr
    generalize hys : y0 :: yr = ys at *
    have hm0 : 0 < ys.length := by rw [← hys]; simp
    have hne : ys ≠ [] := by rw [← hys]; simp
    clear hys
    obtain ⟨A2, cap2, us, rfl, hy⟩ := hv hne
    have hul := hy.len
    split at h <;> try (cases h; done)
    · split at h <;> try (cases h; done)
      rename_i hb
      cases h
      cases hu
      have hrun := run_append_nil (P := P) w t ty e i z ht hi hz A2 ys.length cap2 us hul hy.cell hm0 (by omega) (by omega)
      have hge := grownCap_ge w ys.length 0 e
      obtain ⟨G', q1, q2⟩ := grow_rel c (hf _ (Nat.le_refl _) (Nat.lt_succ_self _)) hs0 (cs := []) (vs := []) rfl (fun q x v h => by simp at h) hy z.cells e ys.length (grownCap w ys.length 0 e) (by simp [hul]) hge hzs
      refine ⟨_, _, G', hrun, q1, ?_⟩
      simpa using q2
    · rename_i s2 k
      split at h <;> try (cases h; done)
      rename_i hb
      obtain ⟨rfl, hb1, hb2⟩ := hb
      split at h <;> try (cases h; done)
      rename_i e' s' hg
      split at h <;> try (cases h; done)
      rename_i heq
      obtain ⟨rfl, rfl⟩ := heq
      cases h
      have hfr : Fresh G σ.get σ.next := hf _ (Nat.le_refl _) (Nat.lt_succ_self _)
      have hx : ∃ A cap1, u = .slice (some A) 0 cap1 ∧ (cap1 = 0 ∨ ∃ b1, A = ⟨b1, 0, none⟩ ∧ G.H k 0 = some (b1, cap1)) := by
        cases hu with
        | list0 _ _ A cap ht0 => exact ⟨A, cap, rfl, .inl (ht0 k rfl)⟩
        | list _ _ _ b o cap f hcap hs hI hv ht1 =>
          obtain ⟨rfl, hH⟩ := ht1 k rfl
          exact ⟨⟨b, 0, none⟩, cap, rfl, .inr ⟨b, rfl, hH⟩⟩
      obtain ⟨A, cap1, rfl, hkind⟩ := hx
      by_cases hroom : 0 + ys.length ≤ cap1
      · rcases hkind with h0 | ⟨b1, rfl, hH⟩
        · omega
        rcases c.obj k _ hg with ⟨_, z2⟩ | ⟨b0, cap0, c0, k1, k2, k3, k4, k5, k6⟩
        · rw [z2] at hH; cases hH
        rw [hH] at k1
        obtain ⟨rfl, rfl⟩ : b1 = b0 ∧ cap1 = cap0 := by cases k1; exact ⟨rfl, rfl⟩
        have hfit : 0 * i.size + us.length ≤ c0.size := by
          rw [hul, k3, ← Nat.add_mul]; exact Nat.mul_le_mul_right _ hroom
        have hrun := run_append_room (P := P) w t ty e' i ht hi b1 0 cap1 c0 k2 A2 ys.length cap2 us hul hy.cell hy.one hroom hfit
        obtain ⟨G', q1, q2⟩ := room_rel c hg hfr hs0 (.inr (.inl ⟨e', _, 0, cap1, hg, hH⟩)) (fun o => k5 o (by omega)) k2 (cs := []) (len := 0) (by simp) ⟨by simp, fun _ _ _ h => by simp at h⟩ hy hroom (by rw [k3]; exact Nat.le_refl _) _ rfl
        refine ⟨_, _, G', hrun, ?_, ?_⟩
        · simpa using q1
        · simpa using q2
      · have hrun := run_append_grow (P := P) w t ty e' i z ht hi hz A 0 cap1 [] (by simp) (fun j v h => by simp at h) A2 ys.length cap2 us hul hy.cell (by omega) (by omega) (growslice_fits (by omega) (by rw [Nat.zero_add]; omega))
        have hge := grownCap_ge w (0 + ys.length) cap1 e'
        have mg := moved_gone c hg
        have hfr2 : Fresh G (σ.put k .gone).get (σ.put k .gone).next := mg.fresh _ (.inr (Nat.le_refl _)) hfr
        obtain ⟨G', q1, q2⟩ := grow_rel mg.core hfr2 hs0 (cs := []) (vs := []) rfl (fun q x v h => by simp at h) hy z.cells e' (0 + ys.length) (grownCap w (0 + ys.length) cap1 e') (by simp [hul]) hge hzs
        have q1' : VRel G' (.vlist e' i.size σ.next (0 + ys.length)) (.slice (some ⟨w.heap.size, 0, none⟩) (0 + ys.length) (grownCap w (0 + ys.length) cap1 e')) := q1
        refine ⟨_, _, G', hrun, ?_, mg.trans ?_⟩
        · simpa using q1'
        · simpa using q2
    · rename_i e2 s2 n len
      split at h <;> try (cases h; done)
      rename_i hb
      obtain ⟨rfl, rfl, hb1, hb2⟩ := hb
      split at h <;> try (cases h; done)
      rename_i cs0 hg
      have hcut : ∃ cs : List AVal, cs.length = len * i.size ∧ cs.length ≤ cs0.length ∧ (∀ (q : Nat) (x : AVal), cs[q]? = some x → cs0[q]? = some x) ∧ r = .vlist e2 i.size σ.next (len + ys.length) ∧ σ' = (σ.put n .gone).new (.cells (cs ++ ys.flatMap AVal.cells)) := by
        split at h
        · rename_i hcs
          cases h
          exact ⟨cs0, hcs, Nat.le_refl _, fun _ _ h => h, rfl, rfl⟩
        · split at h <;> try (cases h; done)
          rename_i hcs
          cases h
          exact ⟨cs0.take (len * i.size), by simp; omega, by simp; omega, fun q x hq => by
            have hl := (List.getElem?_eq_some_iff.1 hq).1
            rw [List.getElem?_take_of_lt (by simp at hl; omega)] at hq
            exact hq, rfl, rfl⟩
      clear h
      obtain ⟨cs, hcs, hcl, hcv, rfl, rfl⟩ := hcut
      have hfr : Fresh G σ.get σ.next := hf _ (Nat.le_refl _) (Nat.lt_succ_self _)
      cases hu with
      | vlist _ _ _ _ b cap1 tot hn hH hcap hroom1 =>
      obtain ⟨b', c0, t', k1, k2, k3', k4, k5⟩ := c.obj n _ hg
      rw [hn] at k1; cases k1
      have k3 : PRel G cs c0 := ⟨Nat.le_trans hcl k3'.len, fun q x v hx hv => k3'.val q x v (hcv q x hx) hv⟩
      obtain ⟨rfl, rfl⟩ := k5 _ _ hH
      by_cases hroom : len + ys.length ≤ cap1
      · have hfit : len * i.size + us.length ≤ c0.size := by
          rw [hul, ← Nat.add_mul]; exact Nat.le_trans (Nat.mul_le_mul_right _ hroom) hroom1
        have hrun := run_append_room (P := P) w t ty e2 i ht hi b len cap1 c0 k2 A2 ys.length cap2 us hul hy.cell hy.one hroom hfit
        obtain ⟨G', q1, q2⟩ := room_rel c hg hfr hs0 (.inl ⟨cs0, hg, hn⟩) k4 k2 hcs k3 hy hroom hroom1 _ rfl
        exact ⟨_, _, G', hrun, q1, q2⟩
      · have hlen : len * i.size ≤ c0.size := by rw [← hcs]; exact k3.len
        have hvl : (c0.toList.take (len * i.size)).length = len * i.size := by simp; omega
        have hrun := run_append_grow (P := P) w t ty e2 i z ht hi hz ⟨b, 0, none⟩ len cap1 (c0.toList.take (len * i.size)) hvl (fun j v hj => by
          have hjl := (List.getElem?_eq_some_iff.1 hj).1
          rw [addr_add, Nat.zero_add, cell_of_heap k2]
          rw [List.getElem?_take_of_lt (by omega), Array.getElem?_toList] at hj
          exact hj) A2 ys.length cap2 us hul hy.cell (by omega) (by omega) (growslice_fits (by omega) (by omega))
        have hge := grownCap_ge w (len + ys.length) cap1 e2
        have mg := moved_gone c hg
        have hfr2 : Fresh G (σ.put n .gone).get (σ.put n .gone).next := mg.fresh _ (.inr (Nat.le_refl _)) hfr
        obtain ⟨G', q1, q2⟩ := grow_rel mg.core hfr2 hs0 (cs := cs) (vs := c0.toList.take (len * i.size)) (by rw [hvl, hcs]) (fun q x v hx hv => by
          have hjl := (List.getElem?_eq_some_iff.1 hv).1
          rw [List.getElem?_take_of_lt (by omega), Array.getElem?_toList] at hv
          exact k3.val q x v hx hv) hy z.cells e2 (len + ys.length) (grownCap w (len + ys.length) cap1 e2) (by rw [hcs, hul, Nat.add_mul]) hge hzs
        exact ⟨_, _, G', hrun, q1, mg.trans q2⟩

theorem appendV_rel (c : Core G σ.get w) {t ty e : TypeId} {i : TypeInfo} {z : Value} (ht : P.underlying t = some (.slice e)) (hi : P.info? e = some i) (hz : i.zero = some z) (hzs : z.cells.size = i.size)
    {x y : AVal} {u v : Value} (hu : VRel G x u) (hv0 : VRel G y v) {r : AVal} {σ' : Store} (h : xappendV σ e i.size i.bytes x y = some (r, σ')) (hf : News G σ σ'.next) :
    ∃ v' w' G', (Builtin.append_ #[t, t] ty #[u, v]).run P w = .ok v' w' ∧ VRel G' r v' ∧ Moved G σ w G' σ' w' := by
  unfold xappendV at h
  have hv := hv0.down
  split at h
  · exact append_rel c ht hi hz hzs hu hv0 h hf
  split at h <;> try (cases h; done)
  · rename_i s' n off len e1
    rw [e1] at hv
    split at h <;> try (cases h; done)
    rename_i cs hg
    split at h <;> try (cases h; done)
    rename_i hc
    obtain ⟨rfl, hs0, hle⟩ := hc
    split at h <;> try (cases h; done)
    rename_i ys hl
    split at h <;> try (cases h; done)
    rename_i hone
    refine appendW_rel c ht hi hz hzs hs0 hu (fun _ => yrow_made c hv hg hs0 hle hl hone) (fun h0 => ?_) h hf
    obtain ⟨k1, _⟩ := chunks_get _ _ _ hl
    subst h0
    simp at k1
    subst k1
    cases hv with
    | mlist => exact ⟨_, _, rfl⟩
  · rename_i e1
    rw [e1] at hv
    split at h <;> try (cases h; done)
    rename_i hs
    cases h
    cases hv
    exact append_idle c ht hi hu _ _ rfl hs
  · rename_i s' ys tok' e1
    rw [e1] at hv
    split at h <;> try (cases h; done)
    rename_i hc
    obtain ⟨rfl, hs0, hone⟩ := hc
    refine appendW_rel c ht hi hz hzs hs0 hu (fun hne => yrow_list c hv hs0 hne hone) (fun h0 => ?_) h hf
    subst h0
    cases hv with
    | list0 => exact ⟨_, _, rfl⟩
    | list => exact ⟨_, _, rfl⟩
theorem ok_appendZ (c : At G σ w tm a) {o : Oper} {p q : Operand} {x n : XOpd} {t t' e : TypeId} {i : TypeInfo} {z : Value} {zero : List AVal} {kk : IntKind} {cl : Call} (ho : o.op = .call cl) (hc : cl.callee = .builtin .append) (ha : cl.args = #[p, q]) (hat : cl.argTypes = #[t, t'])
    (ht : P.underlying t = some (.slice e)) (ht' : P.underlying t' = some (.int kk)) (hi : P.info? e = some i) (hz : i.zero = some z) (hzs : z.cells.size = i.size) (hzr : ∀ G, ARel G zero z.cells) (hp : OFit p x) (hq : OFit q n) {r : XRes} (hx : xop (.appendZ e i.size i.bytes zero x n) tm σ = some r) (hn : News G σ (r.nx σ)) : OpOk P o a G σ w r := by
  have h1 := hp.rel c.rel
  simp only [xop] at hx
  split at hx <;> try (cases hx; done)
  rename_i m e1 e2
  split at hx <;> try (cases hx; done)
  rename_i hcd
  obtain ⟨hm, hs0, hb, h63⟩ := hcd
  cases hx
  rw [e1] at h1
  obtain ⟨k1, hk1⟩ := idx_rel (hq.rel c.rel) e2
  generalize hu : a.eval p = u at h1
  cases h1
  have hrun := Lib.run_append_nil_zeros (P := P) w t t' o.type e i z k1 kk ht ht' hi hz m hm hs0 (by omega) hb
  have hge := grownCap_ge w m 0 e
  have hrl := madeL_rel (hzr G) (by omega) (m * i.size)
  have hl1 : (madeL zero (m * i.size)).length = m * i.size := by simp [madeL]
  have hl2 : (madeCells z.cells (m * i.size)).size = m * i.size := by simp [madeCells]
  obtain ⟨G', q1, q2⟩ := grow_rel c.core (hn _ (Nat.le_refl _) (Nat.lt_succ_self _)) hs0 (cs := madeL zero (m * i.size)) (vs := (madeCells z.cells (m * i.size)).toList) (by rw [Array.length_toList, hl2, hl1]) (fun q x v hx hv => hrl.val q x v hx (by rw [← Array.getElem?_toList]; exact hv))
    (ys := []) (A := ⟨0, 0, none⟩) (us := []) ⟨by simp, fun j q h => by simp at h, fun i x h => by simp at h, fun i x j c h => by simp at h, fun q h => by simp at h⟩ z.cells e m (grownCap w m 0 e) (by rw [hl1]; rfl) hge hzs
  have hzc : Builtin.zeroCells z.cells m = madeCells z.cells (m * i.size) := by rw [← hzs]; rfl
  rw [hzc] at hrun
  refine ⟨_, w.drew.alloc (.cells (madeCells z.cells (m * i.size) ++ Builtin.zeroCells z.cells (grownCap w m 0 e - m)) e), G', .inl ?_, q1, ?_⟩
  · simp [execOp, ho, resolve, hc, ha, hat, invoke, builtin, hu, hk1, hrun]
  · simpa using q2
theorem ok_appendV (c : At G σ w tm a) {o : Oper} {p q : Operand} {x y : XOpd} {t e : TypeId} {i : TypeInfo} {z : Value} {cl : Call} (ho : o.op = .call cl) (hc : cl.callee = .builtin .append) (ha : cl.args = #[p, q]) (hat : cl.argTypes = #[t, t])
    (ht : P.underlying t = some (.slice e)) (hi : P.info? e = some i) (hz : i.zero = some z) (hzs : z.cells.size = i.size) (hp : OFit p x) (hq : OFit q y) {r : XRes} (hx : xop (.appendV e i.size i.bytes x y) tm σ = some r) (hn : News G σ (r.nx σ)) : OpOk P o a G σ w r := by
  simp only [xop] at hx
  split at hx <;> try (cases hx; done)
  rename_i v σ' h
  cases hx
  obtain ⟨v', w', G', h1, h2, h3⟩ := appendV_rel (ty := o.type) c.core ht hi hz hzs (hp.rel c.rel) (hq.rel c.rel) h hn
  refine ⟨v', w', G', .inl ?_, h2, h3⟩
  simp [execOp, ho, resolve, hc, ha, hat, invoke, builtin, h1]
theorem ok_append (c : At G σ w tm a) {o : Oper} {p q : Operand} {x y : XOpd} {t e : TypeId} {i : TypeInfo} {z : Value} {cl : Call} (ho : o.op = .call cl) (hc : cl.callee = .builtin .append) (ha : cl.args = #[p, q]) (hat : cl.argTypes = #[t, t])
    (ht : P.underlying t = some (.slice e)) (hi : P.info? e = some i) (hz : i.zero = some z) (hzs : z.cells.size = i.size) (hp : OFit p x) (hq : OFit q y) {r : XRes} (hx : xop (.append e i.size i.bytes x y) tm σ = some r) (hn : News G σ (r.nx σ)) : OpOk P o a G σ w r := by
  simp only [xop] at hx
  split at hx <;> try (cases hx; done)
  rename_i v σ' h
  cases hx
  obtain ⟨v', w', G', h1, h2, h3⟩ := append_rel (ty := o.type) c.core ht hi hz hzs (hp.rel c.rel) (hq.rel c.rel) h hn
  refine ⟨v', w', G', .inl ?_, h2, h3⟩
  simp [execOp, ho, resolve, hc, ha, hat, invoke, builtin, h1]
end
end Go.Proofs.Ytgijgcmcpgepaaa.Eng
