/- Stage 8, the resistances of a door: the program's and the document's, by the plain evaluator. -/
import Derived.Test.YtegimoedpoemfaaG7
namespace Go.Proofs.Ytegimoedpoemfaa.Ab
open Go

def minI (x y : Int) : Int := if y < x then y else x
def maxI (x y : Int) : Int := if x < y then y else x
def foldI (f : Int → Int → Int) (q : Nat → Int) : Nat → Nat → Int → Int
  | 0, _, a => a
  | k + 1, i, a => foldI f q k (i + 1) (f a (q i))
def stepM (f : Int → Int → Int) (q : Nat → Int) (i : Nat) (a : Int) : Int ⊕ Unit := .inl (f a (q i))
theorem runM (f : Int → Int → Int) (q : Nat → Int) : ∀ k i a, runF (stepM f q) k i a = .inl (foldI f q k i a) := by
  intro k
  induction k with
  | zero => intro i a; rfl
  | succ k ih => intro i a; exact ih (i + 1) _
def okN1 (p : NQ) : Prop := 1 ≤ p.1 ∧ p.1 ≤ lim
def sM (p : NQ) (i a : Int) : St := ⟨[(0, .slc 1 p.1 (intsF p.2)), (3, .int .i64 a), (4, .int .i64 i)], [], 576⟩
def xM (v : AV) : St := ⟨[(3, v)], [], 576⟩
def fM (f : Int → Int → Int) (p : NQ) : Int ⊕ Unit := runF (stepM f p.2) (p.1 - 1) 1 (p.2 0)
noncomputable def loopM (f : Int → Int → Int) : St → Option LRes := loopG (fun p => sM p 1 (p.2 0)) okN1 (fM f) (.exit 0) (fun _ a => xM (.int .i64 a)) .ret (fun _ _ => xM .undef)
noncomputable def envMi : Env := { envS (fun _ _ _ => none) (fun r => match r with | 5 => some ([0, 3, 4], [3]) | _ => none) with loops := fun r => match r with | 5 => some (loopM minI) | _ => none }
theorem envMi_ok : ∀ f, Tells Try.prog f (envMi.fs f) := fun f => Tells.none_ f
noncomputable def bMi : Code := loopOf 5 Try.f29
noncomputable def eMi : Env := { envMi with nt := 25 }
noncomputable def lMi {R : Type} (N : Nat) (s : St) (K : AX → St → Option R) : Option R := aloop (fun s j => aexec eMi bMi s j) (headOf eMi bMi 576) (exitOf eMi bMi 576) N s K
theorem roundMi {R : Type} (p : NQ) (i a : Int) (N : Nat) (K : AX → St → Option R) : lMi (N + 1) (sM p i a) K =
    match decide (i < p.1) with
    | true => (match decide (0 ≤ i ∧ i < p.1) with
      | true => lMi N (sM p (wr (i + 1)) (minI a (p.2 i.toNat))) K
      | false => none)
    | false => K (.exit 0) (xM (.int .i64 a)) := by kernel_rfl
theorem ltMi : LoopTells eMi bMi (loopM minI) := lt_loopG fun p hp => by
  have hl := hp.2
  have h1 := hp.1
  unfold lim at hl
  refine ⟨p.1 - 1 + 1, fun K => ?_⟩
  refine loop_run1 (fun N s K => lMi N s K) (fun i a => sM p i a) (.exit 0) .ret (fun a => xM (.int .i64 a)) (fun _ => xM .undef) (stepM minI p.2) 1 p.1 K (fun i a N h0 hi => ?_) (fun a N => ?_) (p.1 - 1) 1 (p.2 0) (Nat.le_refl _) (by omega)
  · show lMi _ _ _ = _
    rw [roundMi, ixok hi]
    refine kt (decide_eq_true (by omega)) ?_
    rw [wr_ok (by omega) (by omega)]
    rfl
  · show lMi _ _ _ = _
    rw [roundMi]
    exact kf (decide_eq_false (by omega)) rfl
noncomputable def ofN1Mi (n : Nat) (F : Nat → List AV) : Option Int := match decide (1 ≤ n) with | true => ofI n F fun q => foldI minI q (n - 1) 1 (q 0) | false => none
noncomputable def tMi? : List AV → List Blk → Option Ans
  | [.slc 1 n F], [] => some (intA (ofN1Mi n F))
  | _, _ => none
theorem runMi (n : Nat) (q : Nat → Int) : arun envMi Try.f29 [.slc 1 n (intsF q)] [] =
    match decide ((n : Int) < 1) with
    | true => none
    | false => match decide ((0 : Int) ≤ 0 ∧ (0 : Int) < n) with
      | true => (match gOf (fun p => sM p 1 (p.2 0)) okN1 (fM minI) (sM (n, q) 1 (q 0)) with
        | some (.inl a) => some (.int .i64 a, [])
        | some (.inr _) => some (.undef, [])
        | none => none)
      | false => none := by kernel_rfl
attribute [local irreducible] arun in
theorem tellsMi : Tells Try.prog 29 tMi? := by
  refine tells_run (E := envMi) rfl Try.pok envMi_ok Try.func29 (fun c hc => ?_) fun xs ins r x h hx => ?_
  · refine loops_of c fun c' hc' f hf => ?_
    have hb : loopsOf c = [bMi] := by
      have : Try.f29.body.map loopsOf = some [bMi] := by kernel_rfl
      rw [hc] at this
      injection this
    rw [hb] at hc'
    obtain rfl := List.mem_singleton.1 hc'
    have h6 : firstReg bMi = 5 := by kernel_rfl
    rw [h6] at hf
    injection hf with hf
    subst hf
    exact ltMi
  · unfold tMi? at h
    split at h
    · injection h with h
      subst h
      rename_i n F
      obtain ⟨z, hx, ha, ho⟩ := intA_get hx
      rw [ha, ho]
      unfold ofN1Mi at hx
      cases h1 : decide (1 ≤ n) with
      | false => rw [h1] at hx; cases hx
      | true =>
        rw [h1] at hx
        have h1 := of_decide_eq_true h1
        obtain ⟨hn, q, rfl, rfl⟩ := ofI_some hx
        rw [runMi, gOf_eq (fun p => sM p 1 (p.2 0)) (decNQ 0) (fun _ => rfl) okN1 (fM minI) (n, q) ⟨h1, hn⟩]
        refine kf (decide_eq_false (by omega)) (kt (decide_eq_true ⟨by omega, by omega⟩) ?_)
        unfold fM
        dsimp only
        rw [runM]
    · cases h
noncomputable def envMa : Env := { envS (fun _ _ _ => none) (fun r => match r with | 5 => some ([0, 3, 4], [3]) | _ => none) with loops := fun r => match r with | 5 => some (loopM maxI) | _ => none }
theorem envMa_ok : ∀ f, Tells Try.prog f (envMa.fs f) := fun f => Tells.none_ f
noncomputable def bMa : Code := loopOf 5 Try.f30
noncomputable def eMa : Env := { envMa with nt := 25 }
noncomputable def lMa {R : Type} (N : Nat) (s : St) (K : AX → St → Option R) : Option R := aloop (fun s j => aexec eMa bMa s j) (headOf eMa bMa 576) (exitOf eMa bMa 576) N s K
theorem roundMa {R : Type} (p : NQ) (i a : Int) (N : Nat) (K : AX → St → Option R) : lMa (N + 1) (sM p i a) K =
    match decide (i < p.1) with
    | true => (match decide (0 ≤ i ∧ i < p.1) with
      | true => lMa N (sM p (wr (i + 1)) (maxI a (p.2 i.toNat))) K
      | false => none)
    | false => K (.exit 0) (xM (.int .i64 a)) := by kernel_rfl
theorem ltMa : LoopTells eMa bMa (loopM maxI) := lt_loopG fun p hp => by
  have hl := hp.2
  have h1 := hp.1
  unfold lim at hl
  refine ⟨p.1 - 1 + 1, fun K => ?_⟩
  refine loop_run1 (fun N s K => lMa N s K) (fun i a => sM p i a) (.exit 0) .ret (fun a => xM (.int .i64 a)) (fun _ => xM .undef) (stepM maxI p.2) 1 p.1 K (fun i a N h0 hi => ?_) (fun a N => ?_) (p.1 - 1) 1 (p.2 0) (Nat.le_refl _) (by omega)
  · show lMa _ _ _ = _
    rw [roundMa, ixok hi]
    refine kt (decide_eq_true (by omega)) ?_
    rw [wr_ok (by omega) (by omega)]
    rfl
  · show lMa _ _ _ = _
    rw [roundMa]
    exact kf (decide_eq_false (by omega)) rfl
noncomputable def ofN1Ma (n : Nat) (F : Nat → List AV) : Option Int := match decide (1 ≤ n) with | true => ofI n F fun q => foldI maxI q (n - 1) 1 (q 0) | false => none
noncomputable def tMa? : List AV → List Blk → Option Ans
  | [.slc 1 n F], [] => some (intA (ofN1Ma n F))
  | _, _ => none
theorem runMa (n : Nat) (q : Nat → Int) : arun envMa Try.f30 [.slc 1 n (intsF q)] [] =
    match decide ((n : Int) < 1) with
    | true => none
    | false => match decide ((0 : Int) ≤ 0 ∧ (0 : Int) < n) with
      | true => (match gOf (fun p => sM p 1 (p.2 0)) okN1 (fM maxI) (sM (n, q) 1 (q 0)) with
        | some (.inl a) => some (.int .i64 a, [])
        | some (.inr _) => some (.undef, [])
        | none => none)
      | false => none := by kernel_rfl
attribute [local irreducible] arun in
theorem tellsMa : Tells Try.prog 30 tMa? := by
  refine tells_run (E := envMa) rfl Try.pok envMa_ok Try.func30 (fun c hc => ?_) fun xs ins r x h hx => ?_
  · refine loops_of c fun c' hc' f hf => ?_
    have hb : loopsOf c = [bMa] := by
      have : Try.f30.body.map loopsOf = some [bMa] := by kernel_rfl
      rw [hc] at this
      injection this
    rw [hb] at hc'
    obtain rfl := List.mem_singleton.1 hc'
    have h6 : firstReg bMa = 5 := by kernel_rfl
    rw [h6] at hf
    injection hf with hf
    subst hf
    exact ltMa
  · unfold tMa? at h
    split at h
    · injection h with h
      subst h
      rename_i n F
      obtain ⟨z, hx, ha, ho⟩ := intA_get hx
      rw [ha, ho]
      unfold ofN1Ma at hx
      cases h1 : decide (1 ≤ n) with
      | false => rw [h1] at hx; cases hx
      | true =>
        rw [h1] at hx
        have h1 := of_decide_eq_true h1
        obtain ⟨hn, q, rfl, rfl⟩ := ofI_some hx
        rw [runMa, gOf_eq (fun p => sM p 1 (p.2 0)) (decNQ 0) (fun _ => rfl) okN1 (fM maxI) (n, q) ⟨h1, hn⟩]
        refine kf (decide_eq_false (by omega)) (kt (decide_eq_true ⟨by omega, by omega⟩) ?_)
        unfold fM
        dsimp only
        rw [runM]
    · cases h

/-- The resistance in a state. -/
def restV (q : Nat → Int) (m : Nat) (st : Int) : Int × Int := match hasB m st with
  | true => (q st.toNat, q st.toNat)
  | false => match st == -1 with
    | true => (match decide ((m : Int) > 0) with
      | true => (foldI minI q (m - 1) 1 (q 0), foldI maxI q (m - 1) 1 (q 0))
      | false => (0, 0))
    | false => (0, 0)
noncomputable def rest? : List AV → List Blk → Option Ans
  | [.agg [.int .i64 _, .int .i64 _, .slc 1 m F], .int .i64 st], [] => some (spanX (ofI m F fun q => restV q m st))
  | _, _ => none
noncomputable def envRe : Env := envS (fun f => match f with
  | 28 => has?
  | 29 => tMi?
  | 30 => tMa?
  | _ => fun _ _ => none)
theorem envRe_ok : ∀ f, Tells Try.prog f (envRe.fs f) := by
  intro f
  by_cases h0 : f = 28
  · subst h0; exact tells_has
  by_cases h1 : f = 29
  · subst h1; exact tellsMi
  by_cases h2 : f = 30
  · subst h2; exact tellsMa
  have : envRe.fs f = fun _ _ => none := by
    unfold envRe envS
    dsimp only
    split
    · exact absurd rfl h0
    · exact absurd rfl h1
    · exact absurd rfl h2
    · rfl
  rw [this]
  exact Tells.none_ f
theorem run_rest (r o : Int) (m : Nat) (q : Nat → Int) (st : Int) : arun envRe Try.f13 [.agg [.int .i64 r, .int .i64 o, .slc 1 m (intsF q)], .int .i64 st] [] =
    match hasB m st with
    | true => (match decide (0 ≤ st ∧ st < m) with
      | true => (match decide (0 ≤ st ∧ st < m) with
        | true => some (spanR (q st.toNat, q st.toNat), [])
        | false => none)
      | false => none)
    | false => match st == -1 with
      | true => (match decide ((m : Int) > 0) with
        | true => (match ofN1Mi m (intsF q) with
          | some a => (match ofN1Ma m (intsF q) with
            | some b => some (spanR (a, b), [])
            | none => none)
          | none => none)
        | false => some (spanR (0, 0), []))
      | false => some (spanR (0, 0), []) := by kernel_rfl
attribute [local irreducible] arun in
theorem tells_rest : Tells Try.prog 13 rest? := by
  refine tells_run (E := envRe) rfl Try.pok envRe_ok Try.func13 (fun c _ => envS_loops c) fun xs ins r x h hx => ?_
  · unfold rest? at h
    split at h
    · injection h with h
      subst h
      rename_i r o m F st
      obtain ⟨z, hx, ha, ho⟩ := spanX_get hx
      rw [ha, ho]
      obtain ⟨hn, q, rfl, rfl⟩ := ofI_some hx
      rw [run_rest]
      unfold restV
      cases hh : hasB m st with
      | true =>
        have := hasB_iff.1 hh
        exact kt (decide_eq_true this) (kt (decide_eq_true this) rfl)
      | false =>
        dsimp only
        cases st == -1 with
        | false => rfl
        | true =>
          dsimp only
          cases hm : decide ((m : Int) > 0) with
          | false => rfl
          | true =>
            have hm := of_decide_eq_true hm
            have h1 : decide (1 ≤ m) = true := decide_eq_true (by omega)
            unfold ofN1Mi ofN1Ma
            rw [h1]
            dsimp only
            rw [ofI_eq _ _ hn, ofI_eq _ _ hn]
    · cases h

/-! ### The document's -/
abbrev RQ := Int × Int × NQ
def decRQ (s : St) : RQ := match hget s.hp 0 with | some (.var [.int _ r, .int _ o, .slc _ n F]) => (r, o, n, decI F) | _ => (0, 0, 0, fun _ => 0)
def okRQ (p : RQ) : Prop := okN1 p.2.2
def hpQ (p : RQ) (a b : Int) : List (Nat × Blk) := [(0, .var [.int .i64 p.1, .int .i64 p.2.1, .slc 1 p.2.2.1 (intsF p.2.2.2)]), (64, .var [.int .i64 0, .int .i64 0]), (1792, .var [.int .i64 a, .int .i64 b])]
def sQ (p : RQ) (i : Int) (a : Int × Int) : St := ⟨[(2, .ptr 0 0), (4, .ptr 64 0), (5, .ptr 1792 0), (6, .int .i64 i)], hpQ p a.1 a.2, 1984⟩
def xQ (p : RQ) (a : Int × Int) : St := ⟨[(4, .ptr 64 0), (5, .ptr 1792 0)], hpQ p a.1 a.2, 1984⟩
def stepQ (q : Nat → Int) (i : Nat) (a : Int × Int) : (Int × Int) ⊕ Unit := .inl (minI a.1 (q i), maxI a.2 (q i))
def fQ (p : RQ) : (Int × Int) ⊕ Unit := runF (stepQ p.2.2.2) p.2.2.1 0 (p.2.2.2 0, p.2.2.2 0)
theorem runQ (q : Nat → Int) : ∀ k i a, runF (stepQ q) k i a = .inl (foldI minI q k i a.1, foldI maxI q k i a.2) := by
  intro k
  induction k with
  | zero => intro i a; rfl
  | succ k ih => intro i a; exact ih (i + 1) _
noncomputable def loopQ : St → Option LRes := loopG (fun p => sQ p 0 (p.2.2.2 0, p.2.2.2 0)) okRQ fQ (.exit 0) (fun s a => xQ (decRQ s) a) .ret (fun s _ => xQ (decRQ s) (0, 0))
noncomputable def envQ : Env := { envS (fun _ _ _ => none) (fun r => match r with | 7 => some ([2, 4, 5, 6], [4, 5]) | _ => none) with loops := fun r => match r with | 7 => some loopQ | _ => none }
theorem envQ_ok : ∀ f, Tells Try.prog f (envQ.fs f) := fun f => Tells.none_ f
noncomputable def bQ : Code := loopOf 7 Try.f14
noncomputable def eQ : Env := { envQ with nt := 71 }
noncomputable def lQ {R : Type} (N : Nat) (s : St) (K : AX → St → Option R) : Option R := aloop (fun s j => aexec eQ bQ s j) (headOf eQ bQ 1984) (exitOf eQ bQ 1984) N s K
theorem roundQ {R : Type} (p : RQ) (i : Int) (a : Int × Int) (N : Nat) (K : AX → St → Option R) : lQ (N + 1) (sQ p i a) K =
    match decide (i < p.2.2.1) with
    | true => (match decide (0 ≤ i ∧ i < p.2.2.1) with
      | true => (match decide (0 ≤ i ∧ i < p.2.2.1) with
        | true => lQ N (sQ p (wr (i + 1)) (minI a.1 (p.2.2.2 i.toNat), maxI a.2 (p.2.2.2 i.toNat))) K
        | false => none)
      | false => none)
    | false => K (.exit 0) (xQ p a) := by kernel_rfl
theorem ltQ : LoopTells eQ bQ loopQ := lt_loopG fun p hp => by
  have hl := hp.2
  unfold lim at hl
  refine ⟨p.2.2.1 + 1, fun K => ?_⟩
  refine loop_run (fun N s K => lQ N s K) (fun i a => sQ p i a) (.exit 0) .ret (fun a => xQ p a) (fun _ => xQ p (0, 0)) (stepQ p.2.2.2) p.2.2.1 K (fun i a N hi => ?_) (fun a N => ?_) p.2.2.1 0 _ (Nat.zero_add _)
  · show lQ _ _ _ = _
    rw [roundQ, ixok hi]
    refine kt (decide_eq_true (by omega)) ?_
    rw [wr_ok (by omega) (by omega)]
    rfl
  · show lQ _ _ _ = _
    rw [roundQ]
    exact kf (decide_eq_false (by omega)) rfl
theorem run_restR (r o : Int) (m : Nat) (q : Nat → Int) (st : Int) : arun envQ Try.f14 [.agg [.int .i64 r, .int .i64 o, .slc 1 m (intsF q)], .int .i64 st] [] =
    match (m : Int) == 0 with
    | true => some (spanR (0, 0), [])
    | false => match decide (st < -1) with
      | true => some (spanR (0, 0), [])
      | false => match decide (st ≥ m) with
        | true => some (spanR (0, 0), [])
        | false => match decide (st ≥ 0) with
          | true => (match decide (0 ≤ st ∧ st < m) with
            | true => (match decide (0 ≤ st ∧ st < m) with
              | true => some (spanR (q st.toNat, q st.toNat), [])
              | false => none)
            | false => none)
          | false => match decide ((0 : Int) ≤ 0 ∧ (0 : Int) < m) with
            | true => (match decide ((0 : Int) ≤ 0 ∧ (0 : Int) < m) with
              | true => (match gOf (fun p => sQ p 0 (p.2.2.2 0, p.2.2.2 0)) okRQ fQ (sQ (r, o, m, q) 0 (q 0, q 0)) with
                | some (.inl a) => some (spanR a, [])
                | some (.inr _) => some (spanR (0, 0), [])
                | none => none)
              | false => none)
            | false => none := by kernel_rfl
theorem fold_at0 {f : Int → Int → Int} (hf : ∀ a, f a a = a) (q : Nat → Int) {m : Nat} (hm : 1 ≤ m) : foldI f q m 0 (q 0) = foldI f q (m - 1) 1 (q 0) := by
  obtain ⟨k, rfl⟩ : ∃ k, m = k + 1 := ⟨m - 1, by omega⟩
  rw [Nat.add_sub_cancel]
  show foldI f q k 1 (f (q 0) (q 0)) = _
  rw [hf]
attribute [local irreducible] arun in
theorem tells_restR : Tells Try.prog 14 rest? := by
  refine tells_run (E := envQ) rfl Try.pok envQ_ok Try.func14 (fun c hc => ?_) fun xs ins r x h hx => ?_
  · refine loops_of c fun c' hc' f hf => ?_
    have hb : loopsOf c = [bQ] := by
      have : Try.f14.body.map loopsOf = some [bQ] := by kernel_rfl
      rw [hc] at this
      injection this
    rw [hb] at hc'
    obtain rfl := List.mem_singleton.1 hc'
    have h6 : firstReg bQ = 7 := by kernel_rfl
    rw [h6] at hf
    injection hf with hf
    subst hf
    exact ltQ
  · unfold rest? at h
    split at h
    · injection h with h
      subst h
      rename_i r o m F st
      obtain ⟨z, hx, ha, ho⟩ := spanX_get hx
      rw [ha, ho]
      obtain ⟨hn, q, rfl, rfl⟩ := ofI_some hx
      rw [run_restR]
      unfold restV
      by_cases h0 : m = 0
      · subst h0
        have hh : hasB ((0 : Nat) : Int) st = false := by
          cases h : hasB ((0 : Nat) : Int) st with
          | false => rfl
          | true => have := hasB_iff.1 h; omega
        rw [hh]
        cases st == -1 <;> rfl
      · refine kf (by simp; omega) ?_
        by_cases h1 : st < -1
        · have hh : hasB m st = false := by
            cases h : hasB m st with
            | false => rfl
            | true => have := hasB_iff.1 h; omega
          rw [hh, show (st == -1) = false by simp; omega]
          exact kt (decide_eq_true h1) rfl
        · refine kf (decide_eq_false h1) ?_
          by_cases h2 : st ≥ m
          · have hh : hasB m st = false := by
              cases h : hasB m st with
              | false => rfl
              | true => have := hasB_iff.1 h; omega
            rw [hh, show (st == -1) = false by simp; omega]
            exact kt (decide_eq_true h2) rfl
          · refine kf (decide_eq_false h2) ?_
            by_cases h3 : st ≥ 0
            · rw [show hasB m st = true from hasB_iff.2 ⟨h3, by omega⟩]
              exact kt (decide_eq_true h3) (kt (decide_eq_true ⟨h3, by omega⟩) (kt (decide_eq_true ⟨h3, by omega⟩) rfl))
            · have hh : hasB m st = false := by
                cases h : hasB m st with
                | false => rfl
                | true => have := hasB_iff.1 h; omega
              rw [hh, show (st == -1) = true by simp; omega, show decide ((m : Int) > 0) = true from decide_eq_true (by omega),
                gOf_eq (fun p => sQ p 0 (p.2.2.2 0, p.2.2.2 0)) decRQ (fun _ => rfl) okRQ fQ (r, o, m, q) ⟨(by show 1 ≤ m; omega), hn⟩]
              refine kf (decide_eq_false h3) (kt (decide_eq_true ⟨by omega, by omega⟩) (kt (decide_eq_true ⟨by omega, by omega⟩) ?_))
              unfold fQ
              dsimp only
              rw [runQ]
              dsimp only
              rw [fold_at0 (fun a => by simp [minI]) q (by omega), fold_at0 (fun a => by simp [maxI]) q (by omega)]
    · cases h
end Go.Proofs.Ytegimoedpoemfaa.Ab
