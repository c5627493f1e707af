/-
  ENGINE, H: operations fit: appending.
-/
import Derived.Test.YtbgjmclpahganaaEngG
namespace Go.Proofs.Ytbgjmclpahganaa.Eng
set_option linter.unusedSimpArgs false
set_option linter.unusedVariables false
section
variable {P : Program} {G : Ghost} {σ : Store} {w : World} {tm : List AVal} {a : Act}

/-- A list as a row of cells. -/
theorem list_row {s : Nat} {xs : List AVal} {tok : Option Nat} {v : Value} (h : VRel G (.list s xs tok) v) (hs0 : 0 < s) (hne : xs ≠ [] ∨ tok ≠ none) :
    ∃ (b o cap : Nat) (vs : List Value), v = .slice (some ⟨b, o, none⟩) xs.length cap ∧ xs.length ≤ cap ∧ vs.length = xs.length * s ∧ (∀ (j : Nat) (u : Value), vs[j]? = some u → G.imm b (o + j) = some u) ∧
      (∀ (i : Nat) (x : AVal), xs[i]? = some x → x.cells.length = s) ∧
      (∀ (i : Nat) (x : AVal) (j : Nat) (c : AVal), xs[i]? = some x → x.cells[j]? = some c → ∃ u, vs[i * s + j]? = some u ∧ VRel G c u) ∧
      (∀ (j : Nat) (u : Value), vs[j]? = some u → ∃ (i : Nat) (x : AVal) (l : Nat) (c : AVal), xs[i]? = some x ∧ x.cells[l]? = some c ∧ VRel G c u) ∧
      (∀ k, tok = some k → o = 0 ∧ G.H k xs.length = some (b, cap)) := by
  cases h with
  | list0 s a cap => exact absurd rfl (hne.elim (fun h => absurd rfl h) id)
  | list _ _ _ b o cap f hcap hs hI hv ht =>
    have key : ∀ q, q < xs.length * s → ∃ x c, xs[q / s]? = some x ∧ x.cells[q % s]? = some c := fun q hq => by
      have h1 : q / s < xs.length := Nat.div_lt_of_lt_mul (by rw [Nat.mul_comm]; exact hq)
      have h2 : q % s < s := Nat.mod_lt _ hs0
      have hx := List.getElem?_eq_getElem h1
      refine ⟨_, _, hx, List.getElem?_eq_getElem (by rw [hs _ _ hx]; exact h2)⟩
    have hdm : ∀ q, q / s * s + q % s = q := fun q => by rw [Nat.mul_comm]; exact Nat.div_add_mod q s
    refine ⟨b, o, cap, (List.range (xs.length * s)).map (fun q => f (q / s) (q % s)), rfl, hcap, by simp, fun j u hj => ?_, hs, fun i x j c hx hc => ?_, fun j u hj => ?_, ht⟩
    · have hjl := (List.getElem?_eq_some_iff.1 hj).1
      simp at hjl
      rw [List.getElem?_map, List.getElem?_range hjl] at hj
      simp at hj
      obtain ⟨x, c, h1, h2⟩ := key j hjl
      have := hI _ x _ c h1 h2
      rw [Nat.add_assoc, hdm] at this
      rw [this, hj]
    · have hi := (List.getElem?_eq_some_iff.1 hx).1
      have hjs : j < s := by have := (List.getElem?_eq_some_iff.1 hc).1; rw [hs i x hx] at this; exact this
      have hlt : i * s + j < xs.length * s := by
        have : (i + 1) * s ≤ xs.length * s := Nat.mul_le_mul_right s hi
        rw [Nat.succ_mul] at this; omega
      refine ⟨f i j, ?_, hv i x j c hx hc⟩
      have e1 : (i * s + j) / s = i := by rw [Nat.mul_comm, Nat.mul_add_div hs0, Nat.div_eq_of_lt hjs, Nat.add_zero]
      have e2 : (i * s + j) % s = j := by rw [Nat.mul_comm, Nat.mul_add_mod, Nat.mod_eq_of_lt hjs]
      rw [List.getElem?_map, List.getElem?_range hlt]
      simp only [Option.map_some, e1, e2]
    · have hjl := (List.getElem?_eq_some_iff.1 hj).1
      simp at hjl
      rw [List.getElem?_map, List.getElem?_range hjl] at hj
      simp at hj
      obtain ⟨x, c, h1, h2⟩ := key j hjl
      exact ⟨_, x, _, c, h1, h2, by rw [← hj]; exact hv _ x _ c h1 h2⟩

theorem moved_row {k len : Nat} {e : TypeId} {s : Nat} {σ' : Store} {G' : Ghost} {w' : World} (g1 : G'.ρ = G.ρ) (g2 : ∀ (k' l : Nat), k' ≠ k → G'.H k' l = G.H k' l) (g3 : Core G' (σ.get.put k (.tok e s len)) w') (g4 : Ext G σ.get w G' (σ.get.put k (.tok e s len)) w')
    (hs : (σ' = σ.put k (.tok e s len) ∧ ∃ o, σ.get k = some o) ∨ (σ' = σ.new (.tok e s len) ∧ k = σ.next)) : Moved G σ w G' σ' w' := by
  rcases hs with ⟨rfl, o, hk⟩ | ⟨rfl, rfl⟩
  · refine ⟨by rw [Store.get_put]; exact g3, by rw [Store.get_put]; exact g4, Nat.le_refl _, fun m _ hf => ?_⟩
    have hne : m ≠ k := by rintro rfl; rw [hf] at hk; cases hk
    exact ⟨by rw [g1], fun l => g2 m l hne, by rw [Store.get_put, Mem.put_ne _ (Ne.symm hne)]; exact hf⟩
  · refine ⟨by rw [Store.get_new]; exact g3, by rw [Store.get_new]; exact g4, Nat.le_succ _, fun m hm hf => ?_⟩
    have hne : m ≠ σ.next := by simp [Store.new] at hm; omega
    exact ⟨by rw [g1], fun l => g2 m l hne, by rw [Store.get_new, Mem.put_ne _ (Ne.symm hne)]; exact hf⟩

theorem zeroCells_size (z : Array Value) (n : Nat) : (Builtin.zeroCells z n).size = n * z.size := by simp [Builtin.zeroCells]

/-- What holds of the elements of two rows behind one another. -/
theorem two_rows {G' : Ghost} (le : G.le G') {s : Nat} {xs ys : List AVal} {vs us : List Value} (hl : vs.length = xs.length * s)
    (h1 : ∀ (i : Nat) (x : AVal) (j : Nat) (c : AVal), xs[i]? = some x → x.cells[j]? = some c → ∃ u, vs[i * s + j]? = some u ∧ VRel G c u)
    (h2 : ∀ (i : Nat) (x : AVal) (j : Nat) (c : AVal), ys[i]? = some x → x.cells[j]? = some c → ∃ u, us[i * s + j]? = some u ∧ VRel G c u) (rest : List Value) :
    ∀ (i : Nat) (x : AVal) (j : Nat) (c : AVal), (xs ++ ys)[i]? = some x → x.cells[j]? = some c → ∃ u, (vs ++ us ++ rest)[i * s + j]? = some u ∧ VRel G' c u := by
  intro i x j c hx hc
  by_cases hi : i < xs.length
  · rw [List.getElem?_append_left hi] at hx
    obtain ⟨u, k1, k2⟩ := h1 i x j c hx hc
    have := (List.getElem?_eq_some_iff.1 k1).1
    exact ⟨u, by rw [List.append_assoc, List.getElem?_append_left this]; exact k1, k2.mono le⟩
  · rw [List.getElem?_append_right (by omega)] at hx
    obtain ⟨u, k1, k2⟩ := h2 _ x j c hx hc
    have hlt := (List.getElem?_eq_some_iff.1 k1).1
    have e : i * s + j - vs.length = (i - xs.length) * s + j := by
      rw [hl, Nat.sub_mul]
      have : xs.length * s ≤ i * s := Nat.mul_le_mul_right s (by omega)
      omega
    have hle : vs.length ≤ i * s + j := by
      rw [hl]
      have : xs.length * s ≤ i * s := Nat.mul_le_mul_right s (by omega)
      omega
    refine ⟨u, ?_, k2.mono le⟩
    rw [List.append_assoc, List.getElem?_append_right hle, e, List.getElem?_append_left hlt]
    exact k1

theorem app_len {s : Nat} {xs ys : List AVal} (h1 : ∀ (i : Nat) (x : AVal), xs[i]? = some x → x.cells.length = s) (h2 : ∀ (i : Nat) (x : AVal), ys[i]? = some x → x.cells.length = s) :
    ∀ (i : Nat) (x : AVal), (xs ++ ys)[i]? = some x → x.cells.length = s := fun i x hx => by
  by_cases hi : i < xs.length
  · rw [List.getElem?_append_left hi] at hx; exact h1 i x hx
  · rw [List.getElem?_append_right (by omega)] at hx; exact h2 _ x hx

set_option maxHeartbeats 1000000 in
theorem append_rel (c : Core G σ.get w) {t ty e : TypeId} {i : TypeInfo} {z : Value} (ht : P.underlying t = some (.slice e)) (hi : P.info? e = some i) (hz : i.zero = some z) (hzs : z.cells.size = i.size)
    {x y : AVal} {u v : Value} (hu : VRel G x u) (hv : VRel G y v) {r : AVal} {σ' : Store} (h : xappend σ e i.size i.bytes x y = some (r, σ')) (hf : News G σ σ'.next) :
    ∃ v' w' G', (Builtin.append_ #[t, t] ty #[u, v]).run P w = .ok v' w' ∧ VRel G' r v' ∧ Moved G σ w G' σ' w' := by
  have idle : ∀ (b : Option Addr) (cap : Nat), v = .slice b 0 cap → x.isSlice = true → ∃ v' w' G', (Builtin.append_ #[t, t] ty #[u, v]).run P w = .ok v' w' ∧ VRel G' x v' ∧ Moved G σ w G' σ w' := by
    intro b cap hb hs
    refine ⟨u, w, G, ?_, hu, .refl c⟩
    subst hb
    have hsl : ∃ A n k, u = .slice A n k ∧ n ≤ k := by
      cases hu <;> first
        | (simp [AVal.isSlice] at hs; done)
        | exact ⟨_, _, _, rfl, Nat.le_refl _⟩
        | exact ⟨_, _, _, rfl, by assumption⟩
        | exact ⟨_, _, _, rfl, Nat.zero_le _⟩
    obtain ⟨A, n, k, rfl, hnk⟩ := hsl
    cases A <;> cases b <;> simp [Builtin.append_, run_underlying ht, sizeOf_run hi, Builtin.lenOf, Builtin.firstCells, loadCells, loadCellsFrom, hnk, storeCells]
  unfold xappend at h
  split at h <;> try (cases h; done)
  · split at h <;> try (cases h; done)
    rename_i hs
    cases h
    cases hv
    exact idle _ _ rfl hs
  · rename_i s' ys tok'
    split at h <;> try (cases h; done)
    rename_i hc
    obtain ⟨rfl, hs0, hone⟩ := hc
    split at h
    · split at h <;> try (cases h; done)
      rename_i hs
      cases h
      have hsh : ∃ b cap, v = .slice b 0 cap := by
        cases hv with
        | list0 s a cap => exact ⟨_, _, rfl⟩
        | list => exact ⟨_, _, rfl⟩
      obtain ⟨b, cap, hsh⟩ := hsh
      exact idle b cap hsh hs
    · rename_i y0 yr
      generalize hys : y0 :: yr = ys at *
      have hm0 : 0 < ys.length := by rw [← hys]; simp
      clear hys
      obtain ⟨b2, o2, cap2, us, rfl, hcap2, hul, huI, hucl, huv, huo, htok2⟩ := list_row hv hs0 (.inl (by intro h0; rw [h0] at hm0; simp at hm0))
      clear htok2
      have hucell : ∀ (j : Nat) (q : Value), us[j]? = some q → w.cell? ((⟨b2, o2, none⟩ : Addr).add j) = some q := fun j q hj => by
        rw [addr_add]; exact c.imm _ _ _ (huI j q hj)
      have huone : ∀ q ∈ us, q.oneCell' = true := fun q hq => by
        obtain ⟨j, hj⟩ := List.mem_iff_getElem?.1 hq
        obtain ⟨i', x', l', c', e1, e2, e3⟩ := huo j q hj
        have h1 := List.all_eq_true.1 hone x' (List.mem_iff_getElem?.2 ⟨_, e1⟩)
        have h2 := List.all_eq_true.1 h1 c' (List.mem_iff_getElem?.2 ⟨_, e2⟩)
        exact one_rel e3 h2
      split at h <;> try (cases h; done)
      · split at h <;> try (cases h; done)
        rename_i hb
        cases h
        cases hu
        have hrun := run_append_nil (P := P) w t ty e i z ht hi hz ⟨b2, o2, none⟩ ys.length cap2 us hul hucell hm0 (by omega) (by omega)
        have hge := grownCap_ge w ys.length 0 e
        obtain ⟨G', g1, g2, _, g3, g4, g5, g6⟩ := core_row c.drew (k := σ.next) (len := ys.length) (fun l _ => (hf _ (Nat.le_refl _) (Nat.lt_succ_self _)).H l) e i.size (grownCap w ys.length 0 e) (us.toArray ++ Builtin.zeroCells z.cells (grownCap w ys.length 0 e - ys.length))
          (by rw [Array.size_append, zeroCells_size, List.size_toArray, hul, hzs, ← Nat.add_mul]; congr 1; omega) hge
        have g4' := Ext.drewL g4
        refine ⟨_, _, G', hrun, ?_, moved_row g1 g2 g3 g4' (.inr ⟨rfl, rfl⟩)⟩
        have hsz : w.drew.heap.size = w.heap.size := rfl
        rw [hsz] at g5 g6
        refine list_of_row _ hge g5 hucl g6 (fun i' x' j' c' e1 e2 => ?_)
        obtain ⟨q, k1, k2⟩ := two_rows (G := G) (xs := []) (vs := []) g4'.le (s := i.size) (by simp) (fun _ _ _ _ h => by simp at h) huv (Builtin.zeroCells z.cells (grownCap w ys.length 0 e - ys.length)).toList i' x' j' c' (by simpa using e1) e2
        refine ⟨q, ?_, k2⟩
        rw [← Array.getElem?_toList]
        simpa using k1
      · rename_i s2 xs k
        split at h <;> try (cases h; done)
        rename_i hb
        obtain ⟨rfl, hb1, hb2⟩ := hb
        split at h <;> try (cases h; done)
        rename_i e' s' len hg
        split at h <;> try (cases h; done)
        rename_i heq
        obtain ⟨rfl, rfl, rfl⟩ := heq
        cases h
        obtain ⟨b1, o1, cap1, vs, rfl, hcap1, hvl, hvI, hvcl, hvv, hvo, htok⟩ := list_row hu hs0 (.inr (by simp))
        obtain ⟨rfl, hH⟩ := htok k rfl
        obtain ⟨b0, cap0, c0, k1, k2, k3, k4, k5, k6⟩ := c.obj k _ hg
        rw [hH] at k1
        obtain ⟨rfl, rfl⟩ : b1 = b0 ∧ cap1 = cap0 := by cases k1; exact ⟨rfl, rfl⟩
        have hlen : (xs ++ ys).length = xs.length + ys.length := by simp
        have hvs : ∀ (j : Nat) (q : Value), vs[j]? = some q → c0[j]? = some q := fun j q hj => by
          have := c.imm _ _ _ (hvI j q hj)
          rw [Nat.zero_add, cell_of_heap k2] at this
          exact this
        by_cases hroom : xs.length + ys.length ≤ cap1
        · have hfit : xs.length * i.size + us.length ≤ c0.size := by
            rw [hul, k3, ← Nat.add_mul]; exact Nat.mul_le_mul_right _ hroom
          have hrun := run_append_room (P := P) w t ty e' i ht hi b1 xs.length cap1 c0 k2 ⟨b2, o2, none⟩ ys.length cap2 us hul hucell huone hroom hfit
          generalize hc' : (c0.toList.take (xs.length * i.size) ++ us ++ c0.toList.drop (xs.length * i.size + us.length)).toArray = c' at hrun
          have htake : c0.toList.take (xs.length * i.size) = vs := by
            apply List.ext_getElem?
            intro j
            by_cases hj : j < xs.length * i.size
            · rw [List.getElem?_take_of_lt hj, Array.getElem?_toList, hvs j vs[j] (List.getElem?_eq_getElem (by omega)), List.getElem?_eq_getElem (by omega)]
            · rw [List.getElem?_eq_none (by simp; omega), List.getElem?_eq_none (by omega)]
          rw [htake] at hc'
          have hsz : c'.size = c0.size := by
            rw [← hc']; simp; omega
          have hH1 : Grows G k (xs.length + ys.length) := fun l hl => k6 l (by omega)
          obtain ⟨G', g1, g2, _, g3, g4, g5, g6⟩ := core_push (w' := w.setRow b1 c') c hg hH hH1 k2 (by omega) hroom hsz (fun q hq => by
              rw [← hc', List.getElem?_toArray, List.append_assoc, List.getElem?_append_left (by omega)]
              rw [← htake, List.getElem?_take_of_lt hq, Array.getElem?_toList]) (setRow_heap w b1 c0 c' e' _ k2) (fun b' hb' => setRow_other w b1 b' c' hb') rfl rfl rfl (by simp [World.setRow])
          refine ⟨_, _, G', hrun, ?_, moved_row g1 g2 g3 g4 (.inl ⟨rfl, _, hg⟩)⟩
          rw [← hlen] at g5 g6 hroom ⊢
          refine list_of_row c' hroom g5 (app_len hvcl hucl) g6 (fun i' x' j' c' e1 e2 => ?_)
          obtain ⟨q, q1, q2⟩ := two_rows (G := G) g4.le hvl hvv huv (c0.toList.drop (xs.length * i.size + us.length)) i' x' j' c' e1 e2
          exact ⟨q, by rw [← hc', List.getElem?_toArray]; exact q1, q2⟩
        · have hvcell : ∀ (j : Nat) (q : Value), vs[j]? = some q → w.cell? ((⟨b1, 0, none⟩ : Addr).add j) = some q := fun j q hj => by
            rw [addr_add]; exact c.imm _ _ _ (hvI j q hj)
          have hrun := run_append_grow (P := P) w t ty e' i z ht hi hz ⟨b1, 0, none⟩ xs.length cap1 vs hvl hvcell ⟨b2, o2, none⟩ ys.length cap2 us hul hucell (by omega) (by omega) (growslice_fits (by omega) (by omega))
          have hge := grownCap_ge w (xs.length + ys.length) cap1 e'
          have hH1 : Grows G k (xs.length + ys.length) := fun l hl => k6 l (by omega)
          obtain ⟨G', g1, g2, _, g3, g4, g5, g6⟩ := core_row c.drew hH1 e' i.size (grownCap w (xs.length + ys.length) cap1 e') (vs.toArray ++ us.toArray ++ Builtin.zeroCells z.cells (grownCap w (xs.length + ys.length) cap1 e' - (xs.length + ys.length)))
            (by rw [Array.size_append, Array.size_append, zeroCells_size, List.size_toArray, List.size_toArray, hul, hvl, hzs, ← Nat.add_mul, ← Nat.add_mul]; congr 1; omega) hge
          have g4' := Ext.drewL g4
          refine ⟨_, _, G', hrun, ?_, moved_row g1 g2 g3 g4' (.inl ⟨rfl, _, hg⟩)⟩
          have hsz : w.drew.heap.size = w.heap.size := rfl
          rw [hsz] at g5 g6
          rw [← hlen] at g5 g6 hge ⊢
          refine list_of_row _ hge g5 (app_len hvcl hucl) g6 (fun i' x' j' c' e1 e2 => ?_)
          obtain ⟨q, q1, q2⟩ := two_rows (G := G) g4'.le hvl hvv huv (Builtin.zeroCells z.cells (grownCap w (xs ++ ys).length cap1 e' - (xs ++ ys).length)).toList i' x' j' c' e1 e2
          refine ⟨q, ?_, q2⟩
          rw [← Array.getElem?_toList]
          simpa using q1

theorem ok_append (c : At G σ w tm a) {o : Oper} {p q : Operand} {x y : XOpd} {t e : TypeId} {i : TypeInfo} {z : Value} {cl : Call} (ho : o.op = .call cl) (hc : cl.callee = .builtin .append) (ha : cl.args = #[p, q]) (hat : cl.argTypes = #[t, t])
    (ht : P.underlying t = some (.slice e)) (hi : P.info? e = some i) (hz : i.zero = some z) (hzs : z.cells.size = i.size) (hp : OFit p x) (hq : OFit q y) {r : XRes} (hx : xop (.append e i.size i.bytes x y) tm σ = some r) (hn : News G σ (r.nx σ)) : OpOk P o a G σ w r := by
  simp only [xop] at hx
  split at hx <;> try (cases hx; done)
  rename_i v σ' h
  cases hx
  obtain ⟨v', w', G', h1, h2, h3⟩ := append_rel (ty := o.type) c.core ht hi hz hzs (hp.rel c.rel) (hq.rel c.rel) h hn
  refine ⟨v', w', G', .inl ?_, h2, h3⟩
  simp [execOp, ho, resolve, hc, ha, hat, invoke, builtin, h1]
end
end Go.Proofs.Ytbgjmclpahganaa.Eng
