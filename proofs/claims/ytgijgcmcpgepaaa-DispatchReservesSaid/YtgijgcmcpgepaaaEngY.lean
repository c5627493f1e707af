/-
  ENGINE, Y: equations of the run, for simp.
-/
import Derived.Test.YtgijgcmcpgepaaaEngW
namespace Go.Proofs.Ytgijgcmcpgepaaa.Eng
set_option linter.unusedSimpArgs false
set_option linter.unusedVariables false

variable {X : FuncId → Option XFunc}

noncomputable def thenC (X : FuncId → Option XFunc) (r : Option RRes) (b : XCode) : Option RRes := match r with
  | some (.normal, tm, σ) => Run X (.code b) tm σ
  | r => r
noncomputable def blockC (i : Nat) (r : Option RRes) : Option RRes := match r with
  | some (.exit i', tm, σ) => if Nat.beq i' i then some (.normal, tm, σ) else some (.exit i', tm, σ)
  | r => r
noncomputable def condC (X : FuncId → Option XFunc) (v : AVal) (a b : XCode) (tm : List AVal) (σ : Store) : Option RRes := match v with
  | .bool true => Run X (.code a) tm σ
  | .bool false => Run X (.code b) tm σ
  | _ => none
noncomputable def retC (X : FuncId → Option XFunc) (r : Option RRes) (d : Option Nat) (l : List XOper) (tm : List AVal) : Option RRes := match r with
  | some (_, [v], σ) => Run X (.ops l) (putT tm d v) σ
  | _ => none
noncomputable def opC (X : FuncId → Option XFunc) (r : Option XRes) (d : Option Nat) (l : List XOper) (tm : List AVal) (σ : Store) : Option RRes := match r with
  | some (.val v σ) => Run X (.ops l) (putT tm d v) σ
  | some (.enter f args) => retC X (Run X (.call f) args σ) d l tm
  | some (.round m args) => retC X (Run X (.round m) args σ) d l tm
  | some (.enterK f args) => retC X (Run X (.callK f) args σ) d l tm
  | none => none
noncomputable def wantC (X : FuncId → Option XFunc) (w : AVal) (want : Bool) (o : XOp) (d : Option Nat) (l : List XOper) (tm : List AVal) (σ : Store) : Option RRes := match w with
  | .bool b => if b == want then opC X (xop o tm σ) d l tm σ else Run X (.ops l) (putT tm d aundef) σ
  | _ => Run X (.ops l) (putT tm d aundef) σ

theorem thenC_congr {r r' : Option RRes} {b : XCode} (h : r = r') : thenC X r b = thenC X r' b := by rw [h]
theorem blockC_congr {i : Nat} {r r' : Option RRes} (h : r = r') : blockC i r = blockC i r' := by rw [h]
theorem condC_congr {v v' : AVal} {a b : XCode} {tm : List AVal} {σ : Store} (h : v = v') : condC X v a b tm σ = condC X v' a b tm σ := by rw [h]
theorem retC_congr {r r' : Option RRes} {d : Option Nat} {l : List XOper} {tm : List AVal} (h : r = r') : retC X r d l tm = retC X r' d l tm := by rw [h]
theorem opC_congr {r r' : Option XRes} {d : Option Nat} {l : List XOper} {tm : List AVal} {σ : Store} (h : r = r') : opC X r d l tm σ = opC X r' d l tm σ := by rw [h]
theorem wantC_congr {w w' : AVal} {want : Bool} {o : XOp} {d : Option Nat} {l : List XOper} {tm : List AVal} {σ : Store} (h : w = w') : wantC X w want o d l tm σ = wantC X w' want o d l tm σ := by rw [h]
attribute [congr] thenC_congr blockC_congr condC_congr retC_congr opC_congr wantC_congr

theorem Run_skip (tm : List AVal) (σ : Store) : Run X (.code .skip) tm σ = some (.normal, tm, σ) := by rw [Run_step]; rfl
theorem Run_exit (i : Nat) (tm : List AVal) (σ : Store) : Run X (.code (.exit i)) tm σ = some (.exit i, tm, σ) := by rw [Run_step]; rfl
theorem Run_ret (tm : List AVal) (σ : Store) : Run X (.code .ret) tm σ = some (.ret, tm, σ) := by rw [Run_step]; rfl
theorem Run_reg (l : List XOper) (tm : List AVal) (σ : Store) : Run X (.code (.reg l)) tm σ = Run X (.ops l) tm σ := by rw [Run_step]; rfl
theorem Run_dreg (l : List XOper) (tm : List AVal) (σ : Store) : Run X (.code (.dreg l)) tm σ = Run X (.dops l []) tm (xcaps σ (capsOf tm l)).2 := by rw [Run_step]; rfl
theorem Run_seq (a b : XCode) (tm : List AVal) (σ : Store) : Run X (.code (.seq a b)) tm σ = thenC X (Run X (.code a) tm σ) b := by
  rw [Run_step]; simp only [step, thenC]
  generalize Run X (.code a) tm σ = r
  rcases r with _ | ⟨e, tm, σ⟩
  · rfl
  · cases e <;> rfl
theorem Run_cond (c : XOpd) (a b : XCode) (tm : List AVal) (σ : Store) : Run X (.code (.cond c a b)) tm σ = condC X (c.eval tm) a b tm σ := by
  rw [Run_step]; simp only [step, condC]
  generalize XOpd.eval tm c = v
  cases v <;> try rfl
theorem Run_block (i : Nat) (c : XCode) (tm : List AVal) (σ : Store) : Run X (.code (.block i c)) tm σ = blockC i (Run X (.code c) tm σ) := by
  rw [Run_step]; simp only [step, blockC]
  generalize Run X (.code c) tm σ = r
  rcases r with _ | ⟨e, tm, σ⟩
  · rfl
  · cases e <;> rfl
theorem Run_loop (c : XCode) (tm : List AVal) (σ : Store) : Run X (.code (.loop c)) tm σ = thenC X (Run X (.code c) tm σ) (.loop c) := by
  rw [Run_step]; simp only [step, thenC]
  generalize Run X (.code c) tm σ = r
  rcases r with _ | ⟨e, tm, σ⟩
  · rfl
  · cases e <;> rfl
theorem Run_nil (tm : List AVal) (σ : Store) : Run X (.ops []) tm σ = some (.normal, tm, σ) := by rw [Run_step]; rfl
theorem ret_aux (r : Option RRes) (d : Option Nat) (l : List XOper) (tm : List AVal) :
    (match r with
    | some (_, [v], σ) => Run X (.ops l) (putT tm d v) σ
    | _ => none) = retC X r d l tm := by
  rcases r with _ | ⟨e, vs, σ⟩
  · rfl
  · rcases vs with _ | ⟨v, _ | ⟨w, vs⟩⟩ <;> rfl
theorem Run_op0 (d : Option Nat) (o : XOp) (p : List Nat) (l : List XOper) (tm : List AVal) (σ : Store) :
    Run X (.ops (⟨d, o, none, p⟩ :: l)) tm σ = opC X (xop o tm σ) d l tm σ := by
  rw [Run_step]
  simp only [step, xwanted, if_true, opC]
  cases xop o tm σ with
  | none => rfl
  | some v => cases v with
    | val => rfl
    | enter f args => exact ret_aux _ _ _ _
    | round m args => exact ret_aux _ _ _ _
    | enterK f args => exact ret_aux _ _ _ _
theorem Run_op1 (d : Option Nat) (o : XOp) (t : Nat) (w : Bool) (p : List Nat) (l : List XOper) (tm : List AVal) (σ : Store) :
    Run X (.ops (⟨d, o, some (t, w), p⟩ :: l)) tm σ = wantC X (XOpd.eval tm (.t t)) w o d l tm σ := by
  rw [Run_step]
  have e : XOpd.eval tm (.t t) = tm.getD t aundef := rfl
  rw [e, List.getD_eq_getElem?_getD]
  cases h : tm[t]? with
  | none =>
    simp only [step, xwanted, h, Option.getD_none, wantC, aundef]
    rfl
  | some u =>
    simp only [step, xwanted, h, Option.getD_some]
    cases u <;> try rfl

theorem thenC_normal (tm : List AVal) (σ : Store) (b : XCode) : thenC X (some (.normal, tm, σ)) b = Run X (.code b) tm σ := rfl
theorem thenC_exit (i : Nat) (tm : List AVal) (σ : Store) (b : XCode) : thenC X (some (.exit i, tm, σ)) b = some (.exit i, tm, σ) := rfl
theorem thenC_ret (tm : List AVal) (σ : Store) (b : XCode) : thenC X (some (.ret, tm, σ)) b = some (.ret, tm, σ) := rfl
theorem blockC_normal (i : Nat) (tm : List AVal) (σ : Store) : blockC i (some (.normal, tm, σ)) = some (.normal, tm, σ) := rfl
theorem blockC_ret (i : Nat) (tm : List AVal) (σ : Store) : blockC i (some (.ret, tm, σ)) = some (.ret, tm, σ) := rfl
theorem blockC_exit (i : Nat) (tm : List AVal) (σ : Store) : blockC i (some (.exit i, tm, σ)) = some (.normal, tm, σ) := by simp [blockC]
theorem blockC_exit' {i j : Nat} (h : Nat.beq j i = false) (tm : List AVal) (σ : Store) : blockC i (some (.exit j, tm, σ)) = some (.exit j, tm, σ) := by simp [blockC, h]
theorem condC_true (a b : XCode) (tm : List AVal) (σ : Store) : condC X (.bool true) a b tm σ = Run X (.code a) tm σ := rfl
theorem condC_false (a b : XCode) (tm : List AVal) (σ : Store) : condC X (.bool false) a b tm σ = Run X (.code b) tm σ := rfl
theorem retC_some (e : XExit) (v : AVal) (σ : Store) (d : Option Nat) (l : List XOper) (tm : List AVal) : retC X (some (e, [v], σ)) d l tm = Run X (.ops l) (putT tm d v) σ := rfl
theorem opC_val (v : AVal) (σ σ' : Store) (d : Option Nat) (l : List XOper) (tm : List AVal) : opC X (some (.val v σ)) d l tm σ' = Run X (.ops l) (putT tm d v) σ := rfl
theorem opC_enter (f : FuncId) (args : List AVal) (σ : Store) (d : Option Nat) (l : List XOper) (tm : List AVal) : opC X (some (.enter f args)) d l tm σ = retC X (Run X (.call f) args σ) d l tm := rfl
theorem opC_round (m : Nat) (args : List AVal) (σ : Store) (d : Option Nat) (l : List XOper) (tm : List AVal) : opC X (some (.round m args)) d l tm σ = retC X (Run X (.round m) args σ) d l tm := rfl
theorem opC_enterK (f : FuncId) (args : List AVal) (σ : Store) (d : Option Nat) (l : List XOper) (tm : List AVal) : opC X (some (.enterK f args)) d l tm σ = retC X (Run X (.callK f) args σ) d l tm := rfl
theorem wantC_bool (b want : Bool) (o : XOp) (d : Option Nat) (l : List XOper) (tm : List AVal) (σ : Store) :
    wantC X (.bool b) want o d l tm σ = if b == want then opC X (xop o tm σ) d l tm σ else Run X (.ops l) (putT tm d aundef) σ := rfl

/-! Regions in a drawn order. -/
noncomputable def dretC (X : FuncId → Option XFunc) (r : Option RRes) (d : Option Nat) (l : List XOper) (recs : List (List Nat × List Nat)) (tm : List AVal) (σ : Store) : Option RRes := match r with
  | some (_, [v], _) => Run X (.dops l (recs ++ [([], [])])) (putT tm d v) σ
  | _ => none
noncomputable def dret2C (X : FuncId → Option XFunc) (r : Option RRes) (d : Option Nat) (pre : List Nat) (l : List XOper) (recs : List (List Nat × List Nat)) (tch : List Nat) (tm : List AVal) (σ : Store) : Option RRes := match r with
  | some (_, [v], τ) => if okRec recs 0 pre tch (tch ++ upTo σ.next τ.next) then Run X (.dops l (recs ++ [(tch, tch ++ upTo σ.next τ.next)])) (putT tm d v) (σ.merge τ (tch ++ upTo σ.next τ.next)) else none
  | _ => none
noncomputable def dcallC (X : FuncId → Option XFunc) (fr : Bool) (f : FuncId) (args : List AVal) (d : Option Nat) (pre : List Nat) (l : List XOper) (recs : List (List Nat × List Nat)) (tm : List AVal) (σ : Store) : Option RRes :=
  if fr then dretC X (Run X (.call f) args Store.empty) d l recs tm σ
  else dret2C X (Run X (.call f) args (σ.only (reach σ 10000 (namesL args) []))) d pre l recs (reach σ 10000 (namesL args) []) tm σ
noncomputable def dvalC (X : FuncId → Option XFunc) (ok : Bool) (v : AVal) (τ : Store) (tch wr : List Nat) (d : Option Nat) (l : List XOper) (recs : List (List Nat × List Nat)) (tm : List AVal) (σ : Store) : Option RRes :=
  if ok then Run X (.dops l (recs ++ [(tch, wr)])) (putT tm d v) (σ.merge τ wr) else none
noncomputable def dopC (X : FuncId → Option XFunc) (r : Option XRes) (o : XOp) (d : Option Nat) (pre : List Nat) (l : List XOper) (recs : List (List Nat × List Nat)) (tm : List AVal) (σ : Store) : Option RRes := match r with
  | some (.val v τ) => dvalC X (okRec recs 0 pre (touch o tm σ) (wrote o σ (touch o tm σ) ++ upTo σ.next τ.next)) v τ (touch o tm σ) (wrote o σ (touch o tm σ) ++ upTo σ.next τ.next) d l recs tm σ
  | some (.enter f args) => dcallC X (freeL (stripL args)) f args d pre l recs tm σ
  | some (.round m args) => dret2C X (Run X (.round m) args (σ.only (reach σ 10000 (m :: namesL args) []))) d pre l recs (reach σ 10000 (m :: namesL args) []) tm σ
  | some (.enterK f args) => dret2C X (Run X (.callK f) args (σ.only (reach σ 10000 (namesL args) []))) d pre l recs (reach σ 10000 (namesL args) []) tm σ
  | none => none
noncomputable def dwantC (X : FuncId → Option XFunc) (w : AVal) (want : Bool) (o : XOp) (d : Option Nat) (pre : List Nat) (l : List XOper) (recs : List (List Nat × List Nat)) (tm : List AVal) (σ : Store) : Option RRes := match w with
  | .bool b => if b == want then dopC X (xop o tm (σ.only (touch o tm σ))) o d pre l recs tm σ else Run X (.dops l (recs ++ [([], [])])) (putT tm d aundef) σ
  | _ => Run X (.dops l (recs ++ [([], [])])) (putT tm d aundef) σ
theorem dretC_congr {r r' : Option RRes} {d : Option Nat} {l : List XOper} {recs : List (List Nat × List Nat)} {tm : List AVal} {σ : Store} (h : r = r') : dretC X r d l recs tm σ = dretC X r' d l recs tm σ := by rw [h]
theorem dret2C_congr {r r' : Option RRes} {d : Option Nat} {pre : List Nat} {l : List XOper} {recs : List (List Nat × List Nat)} {tch tch' : List Nat} {tm : List AVal} {σ σ' : Store} (h : r = r') (h2 : tch = tch') (h3 : σ = σ') : dret2C X r d pre l recs tch tm σ = dret2C X r' d pre l recs tch' tm σ' := by rw [h, h2, h3]
theorem dcallC_congr {fr fr' : Bool} {f : FuncId} {args args' : List AVal} {d : Option Nat} {pre : List Nat} {l : List XOper} {recs : List (List Nat × List Nat)} {tm : List AVal} {σ σ' : Store} (h : fr = fr') (h2 : args = args') (h3 : σ = σ') : dcallC X fr f args d pre l recs tm σ = dcallC X fr' f args' d pre l recs tm σ' := by rw [h, h2, h3]
theorem dvalC_congr {ok ok' : Bool} {v : AVal} {τ τ' : Store} {tch tch' wr wr' : List Nat} {d : Option Nat} {l : List XOper} {recs : List (List Nat × List Nat)} {tm : List AVal} {σ σ' : Store} (h : ok = ok') (h2 : τ = τ') (h3 : tch = tch') (h4 : wr = wr') (h5 : σ = σ') : dvalC X ok v τ tch wr d l recs tm σ = dvalC X ok' v τ' tch' wr' d l recs tm σ' := by rw [h, h2, h3, h4, h5]
theorem dopC_congr {r r' : Option XRes} {o : XOp} {d : Option Nat} {pre : List Nat} {l : List XOper} {recs : List (List Nat × List Nat)} {tm : List AVal} {σ σ' : Store} (h : r = r') (h2 : σ = σ') : dopC X r o d pre l recs tm σ = dopC X r' o d pre l recs tm σ' := by rw [h, h2]
theorem dwantC_congr {w w' : AVal} {want : Bool} {o : XOp} {d : Option Nat} {pre : List Nat} {l : List XOper} {recs : List (List Nat × List Nat)} {tm : List AVal} {σ σ' : Store} (h : w = w') (h2 : σ = σ') : dwantC X w want o d pre l recs tm σ = dwantC X w' want o d pre l recs tm σ' := by rw [h, h2]
attribute [congr] dretC_congr dret2C_congr dcallC_congr dvalC_congr dopC_congr dwantC_congr

theorem Run_dnil (recs : List (List Nat × List Nat)) (tm : List AVal) (σ : Store) : Run X (.dops [] recs) tm σ = some (.normal, tm, σ) := by rw [Run_step]; rfl
theorem dop_aux (o : XOp) (d : Option Nat) (p : List Nat) (l : List XOper) (recs : List (List Nat × List Nat)) (tm : List AVal) (σ : Store) :
    (match xop o tm (σ.only (touch o tm σ)) with
        | some (.val v τ) =>
          if okRec recs 0 p (touch o tm σ) (wrote o σ (touch o tm σ) ++ upTo σ.next τ.next) then Run X (.dops l (recs ++ [(touch o tm σ, wrote o σ (touch o tm σ) ++ upTo σ.next τ.next)])) (putT tm d v) (σ.merge τ (wrote o σ (touch o tm σ) ++ upTo σ.next τ.next)) else none
        | some (.enter f args) => if freeL (stripL args) then
            match Run X (.call f) args Store.empty with
            | some (_, [v], _) => Run X (.dops l (recs ++ [([], [])])) (putT tm d v) σ
            | _ => none
          else
            match Run X (.call f) args (σ.only (reach σ 10000 (namesL args) [])) with
            | some (_, [v], τ) =>
              if okRec recs 0 p (reach σ 10000 (namesL args) []) (reach σ 10000 (namesL args) [] ++ upTo σ.next τ.next) then Run X (.dops l (recs ++ [(reach σ 10000 (namesL args) [], reach σ 10000 (namesL args) [] ++ upTo σ.next τ.next)])) (putT tm d v) (σ.merge τ (reach σ 10000 (namesL args) [] ++ upTo σ.next τ.next)) else none
            | _ => none
        | some (.round m args) =>
          match Run X (.round m) args (σ.only (reach σ 10000 (m :: namesL args) [])) with
          | some (_, [v], τ) =>
            if okRec recs 0 p (reach σ 10000 (m :: namesL args) []) (reach σ 10000 (m :: namesL args) [] ++ upTo σ.next τ.next) then Run X (.dops l (recs ++ [(reach σ 10000 (m :: namesL args) [], reach σ 10000 (m :: namesL args) [] ++ upTo σ.next τ.next)])) (putT tm d v) (σ.merge τ (reach σ 10000 (m :: namesL args) [] ++ upTo σ.next τ.next)) else none
          | _ => none
        | some (.enterK f args) =>
          match Run X (.callK f) args (σ.only (reach σ 10000 (namesL args) [])) with
          | some (_, [v], τ) =>
            if okRec recs 0 p (reach σ 10000 (namesL args) []) (reach σ 10000 (namesL args) [] ++ upTo σ.next τ.next) then Run X (.dops l (recs ++ [(reach σ 10000 (namesL args) [], reach σ 10000 (namesL args) [] ++ upTo σ.next τ.next)])) (putT tm d v) (σ.merge τ (reach σ 10000 (namesL args) [] ++ upTo σ.next τ.next)) else none
          | _ => none
        | none => none) = dopC X (xop o tm (σ.only (touch o tm σ))) o d p l recs tm σ := by
  simp only [dopC]
  cases xop o tm (σ.only (touch o tm σ)) with
  | none => rfl
  | some v => cases v with
    | val => rfl
    | enter f args =>
      simp only [dcallC]
      cases freeL (stripL args) with
      | true =>
        simp only [if_true]
        rcases Run X (.call f) args Store.empty with _ | ⟨e, vs, σ⟩
        · rfl
        · rcases vs with _ | ⟨v, _ | ⟨w, vs⟩⟩ <;> rfl
      | false =>
        simp only [Bool.false_eq_true, if_false]
        rcases Run X (.call f) args (σ.only (reach σ 10000 (namesL args) [])) with _ | ⟨e, vs, σ⟩
        · rfl
        · rcases vs with _ | ⟨v, _ | ⟨w, vs⟩⟩ <;> rfl
    | round m args =>
      simp only
      rcases Run X (.round m) args (σ.only (reach σ 10000 (m :: namesL args) [])) with _ | ⟨e, vs, σ⟩
      · rfl
      · rcases vs with _ | ⟨v, _ | ⟨w, vs⟩⟩ <;> rfl
    | enterK f args =>
      simp only
      rcases Run X (.callK f) args (σ.only (reach σ 10000 (namesL args) [])) with _ | ⟨e, vs, σ⟩
      · rfl
      · rcases vs with _ | ⟨v, _ | ⟨w, vs⟩⟩ <;> rfl
theorem Run_dop0 (d : Option Nat) (o : XOp) (p : List Nat) (l : List XOper) (recs : List (List Nat × List Nat)) (tm : List AVal) (σ : Store) :
    Run X (.dops (⟨d, o, none, p⟩ :: l) recs) tm σ = dopC X (xop o tm (σ.only (touch o tm σ))) o d p l recs tm σ := by
  rw [Run_step, ← dop_aux]
  rfl
theorem Run_dop1 (d : Option Nat) (o : XOp) (t : Nat) (w : Bool) (p : List Nat) (l : List XOper) (recs : List (List Nat × List Nat)) (tm : List AVal) (σ : Store) :
    Run X (.dops (⟨d, o, some (t, w), p⟩ :: l) recs) tm σ = dwantC X (XOpd.eval tm (.t t)) w o d p l recs tm σ := by
  rw [Run_step]
  have e : XOpd.eval tm (.t t) = tm.getD t aundef := rfl
  rw [e, List.getD_eq_getElem?_getD]
  cases h : tm[t]? with
  | none =>
    simp only [step, xwanted, h, Option.getD_none, dwantC, aundef]
    rfl
  | some u =>
    simp only [step, xwanted, h, Option.getD_some]
    cases u <;> try rfl

theorem dretC_some (e : XExit) (v : AVal) (τ : Store) (d : Option Nat) (l : List XOper) (recs : List (List Nat × List Nat)) (tm : List AVal) (σ : Store) : dretC X (some (e, [v], τ)) d l recs tm σ = Run X (.dops l (recs ++ [([], [])])) (putT tm d v) σ := rfl
theorem dret2C_some (e : XExit) (v : AVal) (τ : Store) (d : Option Nat) (pre : List Nat) (l : List XOper) (recs : List (List Nat × List Nat)) (tch : List Nat) (tm : List AVal) (σ : Store) : dret2C X (some (e, [v], τ)) d pre l recs tch tm σ = dvalC X (okRec recs 0 pre tch (tch ++ upTo σ.next τ.next)) v τ tch (tch ++ upTo σ.next τ.next) d l recs tm σ := rfl
theorem dcallC_true (f : FuncId) (args : List AVal) (d : Option Nat) (pre : List Nat) (l : List XOper) (recs : List (List Nat × List Nat)) (tm : List AVal) (σ : Store) : dcallC X true f args d pre l recs tm σ = dretC X (Run X (.call f) args Store.empty) d l recs tm σ := rfl
theorem dcallC_false (f : FuncId) (args : List AVal) (d : Option Nat) (pre : List Nat) (l : List XOper) (recs : List (List Nat × List Nat)) (tm : List AVal) (σ : Store) : dcallC X false f args d pre l recs tm σ = dret2C X (Run X (.call f) args (σ.only (reach σ 10000 (namesL args) []))) d pre l recs (reach σ 10000 (namesL args) []) tm σ := rfl
theorem dvalC_true (v : AVal) (τ : Store) (tch wr : List Nat) (d : Option Nat) (l : List XOper) (recs : List (List Nat × List Nat)) (tm : List AVal) (σ : Store) : dvalC X true v τ tch wr d l recs tm σ = Run X (.dops l (recs ++ [(tch, wr)])) (putT tm d v) (σ.merge τ wr) := rfl
theorem dopC_val (v : AVal) (τ : Store) (o : XOp) (d : Option Nat) (pre : List Nat) (l : List XOper) (recs : List (List Nat × List Nat)) (tm : List AVal) (σ : Store) : dopC X (some (.val v τ)) o d pre l recs tm σ = dvalC X (okRec recs 0 pre (touch o tm σ) (wrote o σ (touch o tm σ) ++ upTo σ.next τ.next)) v τ (touch o tm σ) (wrote o σ (touch o tm σ) ++ upTo σ.next τ.next) d l recs tm σ := rfl
theorem dopC_enter (f : FuncId) (args : List AVal) (o : XOp) (d : Option Nat) (pre : List Nat) (l : List XOper) (recs : List (List Nat × List Nat)) (tm : List AVal) (σ : Store) : dopC X (some (.enter f args)) o d pre l recs tm σ = dcallC X (freeL (stripL args)) f args d pre l recs tm σ := rfl
theorem dopC_round (m : Nat) (args : List AVal) (o : XOp) (d : Option Nat) (pre : List Nat) (l : List XOper) (recs : List (List Nat × List Nat)) (tm : List AVal) (σ : Store) : dopC X (some (.round m args)) o d pre l recs tm σ = dret2C X (Run X (.round m) args (σ.only (reach σ 10000 (m :: namesL args) []))) d pre l recs (reach σ 10000 (m :: namesL args) []) tm σ := rfl
theorem dopC_enterK (f : FuncId) (args : List AVal) (o : XOp) (d : Option Nat) (pre : List Nat) (l : List XOper) (recs : List (List Nat × List Nat)) (tm : List AVal) (σ : Store) : dopC X (some (.enterK f args)) o d pre l recs tm σ = dret2C X (Run X (.callK f) args (σ.only (reach σ 10000 (namesL args) []))) d pre l recs (reach σ 10000 (namesL args) []) tm σ := rfl
theorem dwantC_bool (b want : Bool) (o : XOp) (d : Option Nat) (pre : List Nat) (l : List XOper) (recs : List (List Nat × List Nat)) (tm : List AVal) (σ : Store) : dwantC X (.bool b) want o d pre l recs tm σ = if b == want then dopC X (xop o tm (σ.only (touch o tm σ))) o d pre l recs tm σ else Run X (.dops l (recs ++ [([], [])])) (putT tm d aundef) σ := rfl

noncomputable def rangeC (r : Option RRes) (p : Nat) (tm : List AVal) : Option RRes := match r with
  | some (_, [_], τ) => (match rangeOut τ p with
    | some e => some (e, tm, τ.drop p)
    | none => none)
  | _ => none
noncomputable def rangeD (X : FuncId → Option XFunc) (v : AVal) (ps : List Nat) (a b : XCode) (tm : List AVal) (σ : Store) : Option RRes := match v with
  | .fn gf first caps => rangeC (Run X (.call gf) (first ++ [.yld σ.next] ++ caps) (σ.new (.oth (.loop .ready tm ps a b)))) σ.next tm
  | _ => none
theorem Run_rangeF (f : XOpd) (ps : List Nat) (a b : XCode) (tm : List AVal) (σ : Store) : Run X (.code (.rangeF f ps a b)) tm σ = rangeD X (f.eval tm) ps a b tm σ := by
  rw [Run_step]; simp only [step, rangeD]
  generalize XOpd.eval tm f = v
  cases v <;> try rfl
theorem rangeC_some (e : XExit) (v : AVal) (τ : Store) (p : Nat) (tm : List AVal) {e' : XExit} (h : rangeOut τ p = some e') : rangeC (some (e, [v], τ)) p tm = some (e', tm, τ.drop p) := by simp [rangeC, h]
/-- A round, by its parts. -/
theorem Run_round {m : Nat} {args : List AVal} {σ σ1 σ2 σ3 σ4 : Store} {t0 tm1 tm3 : List AVal} {a b : XCode} {e : XExit} (h1 : roundIn σ m args = some (t0, a, b)) (h2 : Run X (.code a) t0 σ = some (.normal, tm1, σ1)) (h3 : roundMid σ1 m = some σ2)
    (h4 : Run X (.code b) tm1 σ2 = some (e, tm3, σ3)) (h5 : roundOut σ3 m e = some σ4) : Run X (.round m) args σ = some (.ret, [.bool e.isN], σ4) := by
  rw [Run_step]; simp only [step, h1, h2, h3, h4, h5]
theorem Run_callK {f : FuncId} {xf : XFunc} {args : List AVal} {σ τ : Store} {e : XExit} {tm : List AVal} {v : AVal} (hx : X f = some xf) (he : ∀ i, e ≠ .exit i) (h : Run X (.code xf.body) (args ++ List.replicate (xf.ntmps - args.length) aundef) σ = some (e, tm, τ)) (hv : xresult tm τ xf.results = some v) : Run X (.callK f) args σ = some (.ret, [v], gc σ τ v) := by
  rw [Run_step]; simp only [step, hx, h]
  cases e with
  | exit i => exact absurd rfl (he i)
  | normal => simp only [hv]
  | ret => simp only [hv]
theorem Run_given (g : List AVal → Option AVal) (tm : List AVal) (σ : Store) : Run X (.code (.given g)) tm σ = match g tm with
    | some v => some (.ret, putT tm (some 0) v, σ)
    | none => none := by rw [Run_step]; rfl

/-! Frames. -/
theorem eval_c (tm : List AVal) (v : AVal) : XOpd.eval tm (.c v) = v := rfl
theorem eval_same {tm : List AVal} {d : Nat} (h : d < tm.length) (v : AVal) : XOpd.eval (putT tm (some d) v) (.t d) = v := by
  simp [XOpd.eval, putT, List.getD_eq_getElem?_getD, h]
theorem eval_ne {tm : List AVal} {d i : Nat} (h : d ≠ i) (v : AVal) : XOpd.eval (putT tm (some d) v) (.t i) = XOpd.eval tm (.t i) := by
  simp [XOpd.eval, putT, List.getD_eq_getElem?_getD, List.getElem?_set_ne h]
theorem eval_nodst (tm : List AVal) (i : Nat) (v : AVal) : XOpd.eval (putT tm none v) (.t i) = XOpd.eval tm (.t i) := rfl
theorem len_put (tm : List AVal) (d : Option Nat) (v : AVal) : (putT tm d v).length = tm.length := by
  cases d <;> simp [putT]
theorem idx_nat (k : IntKind) (n : Nat) : idx (.int k n) = some n := rfl
theorem idx_zero (k : IntKind) : idx (.int k 0) = some 0 := rfl
theorem eval_short {tm : List AVal} {i : Nat} {v : AVal} (h : XOpd.eval tm (.t i) = v) : XOpd.eval tm (.t i) = v := h
theorem int_beq (a b : Int) : (a == b) = decide (a = b) := by by_cases h : a = b <;> simp [h]
theorem int_bne (a b : Int) : (a != b) = !decide (a = b) := by by_cases h : a = b <;> simp [h]
noncomputable def outT (X : FuncId → Option XFunc) (c : XCode) (tm : List AVal) (σ : Store) : List AVal := match Run X (.code c) tm σ with
  | some (_, tm, _) => tm
  | none => []
noncomputable def outS (X : FuncId → Option XFunc) (c : XCode) (tm : List AVal) (σ : Store) : Store := match Run X (.code c) tm σ with
  | some (_, _, σ) => σ
  | none => Store.empty
/-- How a piece of code ends. -/
def Ends (r : Option RRes) (e : XExit) (Q : List AVal → Store → Prop) : Prop := ∃ tm σ, r = some (e, tm, σ) ∧ Q tm σ
theorem Ends_congr {r r' : Option RRes} {e : XExit} {Q : List AVal → Store → Prop} (h : r = r') : Ends r e Q = Ends r' e Q := by rw [h]
attribute [congr] Ends_congr
theorem Ends_some (e e' : XExit) (tm : List AVal) (σ : Store) (Q : List AVal → Store → Prop) : Ends (some (e', tm, σ)) e Q = (e' = e ∧ Q tm σ) := by
  apply propext
  constructor
  · rintro ⟨tm', σ', h, hq⟩
    cases h
    exact ⟨rfl, hq⟩
  · rintro ⟨rfl, hq⟩
    exact ⟨_, _, rfl, hq⟩
/-- What a piece of code leaves, named. -/
theorem out_of {c : XCode} {tm : List AVal} {σ : Store} {e : XExit} {Q : List AVal → Store → Prop} (h : Ends (Run X (.code c) tm σ) e Q) :
    Run X (.code c) tm σ = some (e, outT X c tm σ, outS X c tm σ) ∧ Q (outT X c tm σ) (outS X c tm σ) := by
  obtain ⟨tm', σ', h1, h2⟩ := h
  have e1 : outT X c tm σ = tm' := by simp [outT, h1]
  have e2 : outS X c tm σ = σ' := by simp [outS, h1]
  rw [e1, e2]; exact ⟨h1, h2⟩
theorem capOne_t (tm : List AVal) (n : Nat) : capOne tm (.t n) = some (XOpd.eval tm (.t n)) := rfl
theorem capOne_c (tm : List AVal) (v : AVal) : capOne tm (.c v) = none := rfl
theorem nat_beq (a b : Nat) : Nat.beq a b = decide (a = b) := by
  by_cases h : a = b
  · subst h; simp
  · simp only [h, decide_false]
    cases hb : Nat.beq a b with
    | false => rfl
    | true => exact absurd (Nat.eq_of_beq_eq_true hb) h
theorem filter_yes {α : Type} (l : List α) : l.filter (fun _ => true) = l := by simp
attribute [simp] nat_beq filter_yes
attribute [simp] capOne_t capOne_c
attribute [simp] Run_skip Run_exit Run_ret Run_reg Run_dreg Run_seq Run_cond Run_block Run_nil Run_op0 Run_op1 thenC_normal thenC_exit thenC_ret blockC_normal blockC_ret blockC_exit blockC_exit' condC_true condC_false retC_some opC_val opC_enter wantC_bool int_beq int_bne eval_c eval_same eval_ne eval_nodst len_put idx_nat idx_zero
attribute [simp] opC_round opC_enterK dopC_round dopC_enterK
attribute [simp] Ends_some Run_dnil Run_dop0 Run_dop1 dretC_some dret2C_some dcallC_true dcallC_false dvalC_true dopC_val dopC_enter dwantC_bool
@[simp] theorem xlen_nils : xlen .nils = some (.int .i64 0) := rfl
@[simp] theorem xlen_list (s : Nat) (xs : List AVal) (t : Option Nat) : xlen (.list s xs t) = some (.int .i64 xs.length) := rfl
@[simp] theorem xlen_mlist (s n o l : Nat) : xlen (.mlist s n o l) = some (.int .i64 l) := rfl
@[simp] theorem xmovf_mlist (σ : Store) (s n off len : Nat) : xmovf σ (.mlist s n off len) = match σ.get n with
    | some (.cells cs) => if 0 < s ∧ off + len * s ≤ cs.length ∧ freeL cs then (match chunks (s != 1) s len (cs.drop off) with
      | some xs => some (.list s xs none, σ.put n (.ro cs))
      | none => none) else none
    | _ => none := rfl
@[simp] theorem xmovf_nils (σ : Store) : xmovf σ .nils = some (.nils, σ) := rfl
@[simp] theorem xmovf_list (σ : Store) (s : Nat) (xs : List AVal) (t : Option Nat) : xmovf σ (.list s xs t) = some (.list s xs t, σ) := rfl
@[simp] theorem xmovf_int (σ : Store) (k : IntKind) (n : Int) : xmovf σ (.int k n) = some (.int k n, σ) := rfl
@[simp] theorem xmovf_bool (σ : Store) (b : Bool) : xmovf σ (.bool b) = some (.bool b, σ) := rfl
@[simp] theorem xmovf_agg (σ : Store) (l : List AVal) : xmovf σ (.agg l) = some (.agg l, σ) := rfl
@[simp] theorem xmovf_ptr (σ : Store) (n o : Nat) : xmovf σ (.ptr n o) = some (.ptr n o, σ) := rfl
@[simp] theorem xmovf_str (σ : Store) (b : ByteArray) : xmovf σ (.str b) = some (.str b, σ) := rfl
@[simp] theorem one_int (k : IntKind) (n : Int) : (AVal.int k n).one = true := rfl
@[simp] theorem one_bool (b : Bool) : (AVal.bool b).one = true := rfl
@[simp] theorem one_str (b : ByteArray) : (AVal.str b).one = true := rfl
@[simp] theorem one_nils : AVal.nils.one = true := rfl
@[simp] theorem one_nilp : AVal.nilp.one = true := rfl
@[simp] theorem one_nilfn : AVal.nilfn.one = true := rfl
@[simp] theorem one_list (s : Nat) (xs : List AVal) (t : Option Nat) : (AVal.list s xs t).one = true := rfl
@[simp] theorem one_mlist (s n o l : Nat) : (AVal.mlist s n o l).one = true := rfl
@[simp] theorem one_ptr (n o : Nat) : (AVal.ptr n o).one = true := rfl
@[simp] theorem one_iptr (l : List AVal) (o : Nat) : (AVal.iptr l o).one = true := rfl
@[simp] theorem one_map (n : Nat) : (AVal.map n).one = true := rfl
@[simp] theorem one_nilm : AVal.nilm.one = true := rfl
@[simp] theorem one_nili : AVal.nili.one = true := rfl
@[simp] theorem one_errv : AVal.errv.one = true := rfl
@[simp] theorem one_vlist (e s n l : Nat) : (AVal.vlist e s n l).one = true := rfl
@[simp] theorem one_flt (k : FloatKind) (n : Nat) : (AVal.flt k n).one = true := rfl
@[simp] theorem one_cpx (k : FloatKind) (n m : Nat) : (AVal.cpx k n m).one = true := rfl
@[simp] theorem one_fn (f : FuncId) (a b : List AVal) : (AVal.fn f a b).one = true := rfl
@[simp] theorem wantC_undef (want : Bool) (o : XOp) (d : Option Nat) (l : List XOper) (tm : List AVal) (σ : Store) : wantC X aundef want o d l tm σ = Run X (.ops l) (putT tm d aundef) σ := rfl
@[simp] theorem dwantC_undef (want : Bool) (o : XOp) (d : Option Nat) (pre : List Nat) (l : List XOper) (recs : List (List Nat × List Nat)) (tm : List AVal) (σ : Store) : dwantC X aundef want o d pre l recs tm σ = Run X (.dops l (recs ++ [([], [])])) (putT tm d aundef) σ := rfl
@[simp] theorem xeqS_c (n : Nat) (x y : AVal) : xeqS (.c n) x y = cellEq n x y := by unfold xeqS; rfl
@[simp] theorem xeqS_s (fs : List (Nat × Nat × Bool × ES)) (xs ys : List AVal) : xeqS (.s fs) (.agg xs) (.agg ys) = xeqF fs xs ys := by unfold xeqS; rfl
@[simp] theorem xeqF_nil (xs ys : List AVal) : xeqF [] xs ys = some true := by unfold xeqF; rfl
@[simp] theorem xeqF_cons (off sz : Nat) (agg : Bool) (e : ES) (l : List (Nat × Nat × Bool × ES)) (xs ys : List AVal) : xeqF ((off, sz, agg, e) :: l) xs ys = match partOf off sz agg xs, partOf off sz agg ys with
    | some x, some y => (match xeqS e x y with
      | some true => xeqF l xs ys
      | some false => some false
      | none => none)
    | _, _ => none := by rw [xeqF]; rfl
attribute [simp] xop xbin xint xun xload AVal.cells partOf cellEq xmm xext
end Go.Proofs.Ytgijgcmcpgepaaa.Eng
