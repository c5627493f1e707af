/-
  ENGINE, W: a run without fuel.
-/
import Derived.Test.YtgijgcmcpgepaaaEngI
namespace Go.Proofs.Ytgijgcmcpgepaaa.Eng
set_option linter.unusedSimpArgs false
set_option linter.unusedVariables false

abbrev RRes := XExit × List AVal × Store
abbrev RFun := Job → List AVal → Store → Option RRes

/-- One step, what is called by F. -/
def step (X : FuncId → Option XFunc) (F : RFun) : RFun
  | .code c, tm, σ => match c with
    | .skip => some (.normal, tm, σ)
    | .reg l => F (.ops l) tm σ
    | .dreg l => F (.dops l []) tm (xcaps σ (capsOf tm l)).2
    | .seq a b => match F (.code a) tm σ with
      | some (.normal, tm, σ) => F (.code b) tm σ
      | r => r
    | .cond c a b => match c.eval tm with
      | .bool true => F (.code a) tm σ
      | .bool false => F (.code b) tm σ
      | _ => none
    | .block id c => match F (.code c) tm σ with
      | some (.exit id', tm, σ) => if Nat.beq id' id then some (.normal, tm, σ) else some (.exit id', tm, σ)
      | r => r
    | .loop c => match F (.code c) tm σ with
      | some (.normal, tm, σ) => F (.code (.loop c)) tm σ
      | r => r
    | .exit id => some (.exit id, tm, σ)
    | .ret => some (.ret, tm, σ)
    | .rangeF f ps a b => match f.eval tm with
      | .fn gf first caps => match F (.call gf) (first ++ [.yld σ.next] ++ caps) (σ.new (.oth (.loop .ready tm ps a b))) with
        | some (_, [_], τ) => match rangeOut τ σ.next with
          | some e => some (e, tm, τ.drop σ.next)
          | none => none
        | _ => none
      | _ => none
    | .given g => match g tm with
      | some v => some (.ret, putT tm (some 0) v, σ)
      | none => none
  | .ops l, tm, σ => match l with
    | [] => some (.normal, tm, σ)
    | o :: l =>
      if xwanted o.guard tm then
        match xop o.op tm σ with
        | some (.val v σ) => F (.ops l) (putT tm o.dst v) σ
        | some (.enter f args) => match F (.call f) args σ with
          | some (_, [v], σ) => F (.ops l) (putT tm o.dst v) σ
          | _ => none
        | some (.round m args) => match F (.round m) args σ with
          | some (_, [v], σ) => F (.ops l) (putT tm o.dst v) σ
          | _ => none
        | some (.enterK f args) => match F (.callK f) args σ with
          | some (_, [v], σ) => F (.ops l) (putT tm o.dst v) σ
          | _ => none
        | none => none
      else F (.ops l) (putT tm o.dst aundef) σ
  | .dops l recs, tm, σ => match l with
    | [] => some (.normal, tm, σ)
    | o :: l =>
      if xwanted o.guard tm then
        let tch := touch o.op tm σ
        match xop o.op tm (σ.only tch) with
        | some (.val v τ) =>
          let wr := wrote o.op σ tch ++ upTo σ.next τ.next
          if okRec recs 0 o.pre tch wr then F (.dops l (recs ++ [(tch, wr)])) (putT tm o.dst v) (σ.merge τ wr) else none
        | some (.enter f args) => if freeL (stripL args) then
            match F (.call f) args Store.empty with
            | some (_, [v], _) => F (.dops l (recs ++ [([], [])])) (putT tm o.dst v) σ
            | _ => none
          else
            let tch := reach σ 10000 (namesL args) []
            match F (.call f) args (σ.only tch) with
            | some (_, [v], τ) =>
              let wr := tch ++ upTo σ.next τ.next
              if okRec recs 0 o.pre tch wr then F (.dops l (recs ++ [(tch, wr)])) (putT tm o.dst v) (σ.merge τ wr) else none
            | _ => none
        | some (.round m args) =>
          let tch := reach σ 10000 (m :: namesL args) []
          match F (.round m) args (σ.only tch) with
          | some (_, [v], τ) =>
            let wr := tch ++ upTo σ.next τ.next
            if okRec recs 0 o.pre tch wr then F (.dops l (recs ++ [(tch, wr)])) (putT tm o.dst v) (σ.merge τ wr) else none
          | _ => none
        | some (.enterK f args) =>
          let tch := reach σ 10000 (namesL args) []
          match F (.callK f) args (σ.only tch) with
          | some (_, [v], τ) =>
            let wr := tch ++ upTo σ.next τ.next
            if okRec recs 0 o.pre tch wr then F (.dops l (recs ++ [(tch, wr)])) (putT tm o.dst v) (σ.merge τ wr) else none
          | _ => none
        | none => none
      else F (.dops l (recs ++ [([], [])])) (putT tm o.dst aundef) σ
  | .call f, args, σ => match X f with
    | none => none
    | some xf =>
      let args' := stripL args
      if freeL args' then
        match F (.code xf.body) (args' ++ List.replicate (xf.ntmps - args'.length) aundef) Store.empty with
        | some (.exit _, _, _) => none
        | some (_, tm, τ) => match xresult tm τ xf.results with
          | some v => match sealR τ v with
            | some v => some (.ret, [v], σ)
            | none => none
          | none => none
        | none => none
      else
        match F (.code xf.body) (args ++ List.replicate (xf.ntmps - args.length) aundef) σ with
        | some (.exit _, _, _) => none
        | some (_, tm, τ) => match xresult tm τ xf.results with
          | some v => some (.ret, [v], gc σ τ v)
          | none => none
        | none => none
  | .callK f, args, σ => match X f with
    | none => none
    | some xf => match F (.code xf.body) (args ++ List.replicate (xf.ntmps - args.length) aundef) σ with
      | some (.exit _, _, _) => none
      | some (_, tm, τ) => match xresult tm τ xf.results with
        | some v => some (.ret, [v], gc σ τ v)
        | none => none
      | none => none
  | .round m, args, σ => match roundIn σ m args with
    | none => none
    | some (t0, a, b) => match F (.code a) t0 σ with
      | some (.normal, tm1, σ1) => match roundMid σ1 m with
        | none => none
        | some σ2 => match F (.code b) tm1 σ2 with
          | some (e, _, σ3) => match roundOut σ3 m e with
            | some σ4 => some (.ret, [.bool e.isN], σ4)
            | none => none
          | none => none
      | _ => none

theorem run_succ (X : FuncId → Option XFunc) (n : Nat) (j : Job) (tm : List AVal) (σ : Store) : run X (n + 1) j tm σ = step X (run X n) j tm σ := by
  cases j <;> rfl

/-- What a step looks at: at most two things. -/
theorem step_sees (X : FuncId → Option XFunc) (F : RFun) (j : Job) (tm : List AVal) (σ : Store) (r : RRes) (h : step X F j tm σ = some r) :
    ∃ l : List (Job × List AVal × Store × RRes), (∀ q ∈ l, F q.1 q.2.1 q.2.2.1 = some q.2.2.2) ∧ ∀ G : RFun, (∀ q ∈ l, G q.1 q.2.1 q.2.2.1 = some q.2.2.2) → step X G j tm σ = some r := by
  have zero : ∀ {j tm σ r}, (∀ G : RFun, step X G j tm σ = some r) → ∃ l : List (Job × List AVal × Store × RRes), (∀ q ∈ l, F q.1 q.2.1 q.2.2.1 = some q.2.2.2) ∧ ∀ G : RFun, (∀ q ∈ l, G q.1 q.2.1 q.2.2.1 = some q.2.2.2) → step X G j tm σ = some r :=
    fun h => ⟨[], by simp, fun G _ => h G⟩
  have one : ∀ {j tm σ r} (j1 : Job) (tm1 : List AVal) (σ1 : Store) (r1 : RRes), F j1 tm1 σ1 = some r1 → (∀ G : RFun, G j1 tm1 σ1 = some r1 → step X G j tm σ = some r) → ∃ l : List (Job × List AVal × Store × RRes), (∀ q ∈ l, F q.1 q.2.1 q.2.2.1 = some q.2.2.2) ∧ ∀ G : RFun, (∀ q ∈ l, G q.1 q.2.1 q.2.2.1 = some q.2.2.2) → step X G j tm σ = some r :=
    fun j1 tm1 σ1 r1 h1 h => ⟨[(j1, tm1, σ1, r1)], by simpa using h1, fun G hG => h G (hG (j1, tm1, σ1, r1) (by simp))⟩
  have two : ∀ {j tm σ r} (j1 : Job) (tm1 : List AVal) (σ1 : Store) (r1 : RRes) (j2 : Job) (tm2 : List AVal) (σ2 : Store) (r2 : RRes), F j1 tm1 σ1 = some r1 → F j2 tm2 σ2 = some r2 → (∀ G : RFun, G j1 tm1 σ1 = some r1 → G j2 tm2 σ2 = some r2 → step X G j tm σ = some r) → ∃ l : List (Job × List AVal × Store × RRes), (∀ q ∈ l, F q.1 q.2.1 q.2.2.1 = some q.2.2.2) ∧ ∀ G : RFun, (∀ q ∈ l, G q.1 q.2.1 q.2.2.1 = some q.2.2.2) → step X G j tm σ = some r :=
    fun j1 tm1 σ1 r1 j2 tm2 σ2 r2 h1 h2 h => ⟨[(j1, tm1, σ1, r1), (j2, tm2, σ2, r2)], by simp [h1, h2], fun G hG => h G (hG (j1, tm1, σ1, r1) (by simp)) (hG (j2, tm2, σ2, r2) (by simp))⟩
  match j, h with
  | .code .skip, h => exact zero fun G => h
  | .code (.reg l), h => exact one _ _ _ _ h fun G hG => hG
  | .code (.dreg l), h => exact one _ _ _ _ h fun G hG => hG
  | .code (.seq a b), h =>
    simp only [step] at h
    match e : F (.code a) tm σ, h with
    | some (.normal, tm1, σ1), h => exact two _ _ _ _ _ _ _ _ e h fun G h1 h2 => by simp only [step, h1, h2]
    | some (.exit i, tm1, σ1), h => exact one _ _ _ _ e fun G h1 => by simp only [step, h1]; exact h
    | some (.ret, tm1, σ1), h => exact one _ _ _ _ e fun G h1 => by simp only [step, h1]; exact h
  | .code (.cond c a b), h =>
    simp only [step] at h
    split at h
    · next e => exact one _ _ _ _ h fun G h1 => by simp only [step, e, h1]
    · next e => exact one _ _ _ _ h fun G h1 => by simp only [step, e, h1]
    · cases h
  | .code (.block i c), h =>
    simp only [step] at h
    match e : F (.code c) tm σ, h with
    | some (.normal, tm1, σ1), h => exact one _ _ _ _ e fun G h1 => by simp only [step, h1]; exact h
    | some (.exit i, tm1, σ1), h => exact one _ _ _ _ e fun G h1 => by simp only [step, h1]; exact h
    | some (.ret, tm1, σ1), h => exact one _ _ _ _ e fun G h1 => by simp only [step, h1]; exact h
  | .code (.loop c), h =>
    simp only [step] at h
    match e : F (.code c) tm σ, h with
    | some (.normal, tm1, σ1), h => exact two _ _ _ _ _ _ _ _ e h fun G h1 h2 => by simp only [step, h1, h2]
    | some (.exit i, tm1, σ1), h => exact one _ _ _ _ e fun G h1 => by simp only [step, h1]; exact h
    | some (.ret, tm1, σ1), h => exact one _ _ _ _ e fun G h1 => by simp only [step, h1]; exact h
  | .code (.exit i), h => exact zero fun G => h
  | .code .ret, h => exact zero fun G => h
  | .code (.rangeF f ps a b), h =>
    simp only [step] at h
    split at h
    · next gf first caps e =>
      split at h
      · next e2 => exact one _ _ _ _ e2 fun G h1 => by simp only [step, e, h1]; exact h
      · cases h
    · cases h
  | .code (.given g), h => exact zero fun G => h
  | .ops [], h => exact zero fun G => h
  | .ops (o :: l), h =>
    simp only [step] at h
    split at h
    · next hw =>
      split at h
      · next e => exact one _ _ _ _ h fun G h1 => by simp only [step, hw, if_true, e, h1]
      · next f args e =>
        split at h
        · next e2 => exact two _ _ _ _ _ _ _ _ e2 h fun G h1 h2 => by simp only [step, hw, if_true, e, h1, h2]
        · cases h
      · next m args e =>
        split at h
        · next e2 => exact two _ _ _ _ _ _ _ _ e2 h fun G h1 h2 => by simp only [step, hw, if_true, e, h1, h2]
        · cases h
      · next f args e =>
        split at h
        · next e2 => exact two _ _ _ _ _ _ _ _ e2 h fun G h1 h2 => by simp only [step, hw, if_true, e, h1, h2]
        · cases h
      · cases h
    · next hw => exact one _ _ _ _ h fun G h1 => by simp only [step, hw, if_false, h1]; simp
  | .dops [] recs, h => exact zero fun G => h
  | .dops (o :: l) recs, h =>
    simp only [step] at h
    split at h
    · next hw =>
      split at h
      · next e =>
        split at h
        · next ho => exact one _ _ _ _ h fun G h1 => by simp only [step, hw, if_true, e, ho, h1]
        · cases h
      · next f args e =>
        split at h
        · next hf =>
          split at h
          · next e2 => exact two _ _ _ _ _ _ _ _ e2 h fun G h1 h2 => by simp only [step, hw, if_true, e, hf, h1, h2]
          · cases h
        · next hf =>
          split at h
          · next e2 =>
            split at h
            · next ho => exact two _ _ _ _ _ _ _ _ e2 h fun G h1 h2 => by simp only [step, hw, if_true, e, hf, ho, h1, h2]; simp
            · cases h
          · cases h
      · next m args e =>
        split at h
        · next e2 =>
          split at h
          · next ho => exact two _ _ _ _ _ _ _ _ e2 h fun G h1 h2 => by simp only [step, hw, if_true, e, ho, h1, h2]
          · cases h
        · cases h
      · next f args e =>
        split at h
        · next e2 =>
          split at h
          · next ho => exact two _ _ _ _ _ _ _ _ e2 h fun G h1 h2 => by simp only [step, hw, if_true, e, ho, h1, h2]
          · cases h
        · cases h
      · cases h
    · next hw => exact one _ _ _ _ h fun G h1 => by simp only [step, hw, if_false, h1]; simp
  | .call f, h =>
    simp only [step] at h
    split at h
    · cases h
    · next xf hx =>
      split at h
      · next hf =>
        match e : F (.code xf.body) (stripL tm ++ List.replicate (xf.ntmps - (stripL tm).length) aundef) Store.empty, h with
        | some (.normal, tm1, σ1), h => exact one _ _ _ _ e fun G h1 => by simp only [step, hx, hf, if_true, h1]; exact h
        | some (.ret, tm1, σ1), h => exact one _ _ _ _ e fun G h1 => by simp only [step, hx, hf, if_true, h1]; exact h
      · next hf =>
        match e : F (.code xf.body) (tm ++ List.replicate (xf.ntmps - tm.length) aundef) σ, h with
        | some (.normal, tm1, σ1), h => exact one _ _ _ _ e fun G h1 => by simp only [step, hx, hf, if_false, h1]; exact h
        | some (.ret, tm1, σ1), h => exact one _ _ _ _ e fun G h1 => by simp only [step, hx, hf, if_false, h1]; exact h
  | .callK f, h =>
    simp only [step] at h
    split at h
    · cases h
    · next xf hx =>
      match e : F (.code xf.body) (tm ++ List.replicate (xf.ntmps - tm.length) aundef) σ, h with
      | some (.normal, tm1, σ1), h => exact one _ _ _ _ e fun G h1 => by simp only [step, hx, h1]; exact h
      | some (.ret, tm1, σ1), h => exact one _ _ _ _ e fun G h1 => by simp only [step, hx, h1]; exact h
  | .round m, h =>
    simp only [step] at h
    split at h
    · cases h
    · next t0 a b e0 =>
      split at h
      · next tm1 σ1 e1 =>
        split at h
        · cases h
        · next σ2 em =>
          split at h
          · next ex tm3 σ3 e2 => exact two _ _ _ _ _ _ _ _ e1 e2 fun G h1 h2 => by simp only [step, e0, h1, em, h2]; exact h
          · cases h
      · cases h

theorem run_mono (X : FuncId → Option XFunc) : ∀ (n : Nat) (j : Job) (tm : List AVal) (σ : Store) (r : RRes), run X n j tm σ = some r → run X (n + 1) j tm σ = some r
  | 0, j, tm, σ, r, h => by cases j <;> simp [run] at h
  | n + 1, j, tm, σ, r, h => by
    rw [run_succ] at h
    obtain ⟨l, h1, h2⟩ := step_sees X _ j tm σ r h
    rw [run_succ]
    exact h2 _ fun q hq => run_mono X n _ _ _ _ (h1 q hq)
theorem run_more (X : FuncId → Option XFunc) {n m : Nat} (hm : n ≤ m) {j : Job} {tm : List AVal} {σ : Store} {r : RRes} (h : run X n j tm σ = some r) : run X m j tm σ = some r := by
  obtain ⟨k, rfl⟩ := Nat.exists_eq_add_of_le hm
  induction k with
  | zero => exact h
  | succ k ih => exact run_mono X (n + k) _ _ _ _ (ih (by omega))

open Classical in
/-- The run, with as much fuel as it needs. -/
noncomputable def Run (X : FuncId → Option XFunc) (j : Job) (tm : List AVal) (σ : Store) : Option RRes :=
  if h : ∃ n r, run X n j tm σ = some r then some h.choose_spec.choose else none

theorem Run_iff (X : FuncId → Option XFunc) (j : Job) (tm : List AVal) (σ : Store) (r : RRes) : Run X j tm σ = some r ↔ ∃ n, run X n j tm σ = some r := by
  unfold Run
  split
  · next h =>
    have hs := h.choose_spec.choose_spec
    constructor
    · intro e
      exact ⟨h.choose, by rw [hs]; exact e⟩
    · rintro ⟨n, hn⟩
      have h1 := run_more X (Nat.le_max_left n h.choose) hn
      have h2 := run_more X (Nat.le_max_right n h.choose) hs
      rw [h1] at h2
      exact h2.symm
  · next h =>
    constructor
    · intro e; cases e
    · rintro ⟨n, hn⟩; exact absurd ⟨n, r, hn⟩ h

theorem Run_step (X : FuncId → Option XFunc) (j : Job) (tm : List AVal) (σ : Store) : Run X j tm σ = step X (Run X) j tm σ := by
  apply Option.ext
  intro r
  rw [Run_iff]
  constructor
  · rintro ⟨n, hn⟩
    cases n with
    | zero => cases j <;> simp [run] at hn
    | succ n =>
      rw [run_succ] at hn
      obtain ⟨l, h1, h2⟩ := step_sees X _ j tm σ r hn
      exact h2 _ fun q hq => (Run_iff X _ _ _ _).mpr ⟨n, h1 q hq⟩
  · intro h
    obtain ⟨l, h1, h2⟩ := step_sees X _ j tm σ r h
    have : ∃ n, ∀ q ∈ l, run X n q.1 q.2.1 q.2.2.1 = some q.2.2.2 := by
      clear h2
      induction l with
      | nil => exact ⟨0, by simp⟩
      | cons q l ih =>
        obtain ⟨n, hn⟩ := ih fun q' hq' => h1 q' (by simp [hq'])
        obtain ⟨m, hm⟩ := (Run_iff X _ _ _ _).mp (h1 q (by simp))
        refine ⟨max n m, fun q' hq' => ?_⟩
        rcases List.mem_cons.mp hq' with rfl | hq'
        · exact run_more X (Nat.le_max_right n m) hm
        · exact run_more X (Nat.le_max_left n m) (hn q' hq')
    obtain ⟨n, hn⟩ := this
    exact ⟨n + 1, by rw [run_succ]; exact h2 _ hn⟩

/-- A call that needs no store. -/
def Ret (X : FuncId → Option XFunc) (f : FuncId) (args : List AVal) (v : AVal) : Prop := ∀ σ, Run X (.call f) args σ = some (.ret, [v], σ)
end Go.Proofs.Ytgijgcmcpgepaaa.Eng
