/- Stage 8, the document's Check, by the plain evaluator. -/
import Derived.Test.YtegimoedpoemfaaG6
namespace Go.Proofs.Ytegimoedpoemfaa.Ab
open Go

theorem loop_run1 {A B R : Type} (L : Nat → St → (AX → St → Option R) → Option R) (head : Nat → A → St) (ax ar : AX) (exN : A → St) (exR : B → St) (step : Nat → A → A ⊕ B) (i0 n : Nat) (K : AX → St → Option R)
    (hr : ∀ i a N, i0 ≤ i → i < n → L (N + 1) (head i a) K = match step i a with | .inl a' => L N (head (i + 1) a') K | .inr b => K ar (exR b))
    (hl : ∀ a N, L (N + 1) (head n a) K = K ax (exN a)) : ∀ k i a, i0 ≤ i → i + k = n → L (k + 1) (head i a) K = match runF step k i a with | .inl a' => K ax (exN a') | .inr b => K ar (exR b) := by
  intro k
  induction k with
  | zero => intro i a _ h; obtain rfl : i = n := by omega
            exact hl a 0
  | succ k ih =>
    intro i a h0 h
    rw [hr i a _ h0 (by omega)]
    unfold runF
    cases step i a with
    | inl a' => exact ih (i + 1) a' (by omega) (by omega)
    | inr b => rfl
abbrev DN := Ds × Nat
def decDN (s : St) : DN := (decK 0 s, match aget s.tm 3 with | .int _ i => i.toNat | _ => 0)
def okDN (p : DN) : Prop := DB p.1 ∧ p.2 < p.1.n ∧ 1 ≤ p.1.len p.2

/-! ### Its numbers -/
def hpR (p : DN) : List (Nat × Blk) := [(832, .var (doorsF p.1 p.2)), (833, .nilrow 0)]
def sA (p : DN) (k : Int) : St := ⟨[(0, .slc 3 p.1.n (doorsF p.1)), (3, .int .i64 p.2), (4, .ptr 832 0), (5, .int .i64 k)], hpR p, 1856⟩
def xA (p : DN) (v : AV) : St := ⟨[(0, .slc 3 p.1.n (doorsF p.1)), (2, v), (3, .int .i64 p.2), (4, .ptr 832 0)], hpR p, 1856⟩
def stepA (q : Nat → Int) (i : Nat) (_ : Unit) : Unit ⊕ Unit := match decide (q i < 0) with | true => .inr () | false => match decide (q i > 262144) with | true => .inr () | false => .inl ()
def fA (p : DN) : Unit ⊕ Unit := runF (stepA (p.1.rest p.2)) (p.1.len p.2) 0 ()
def stA (s : St) (v : AV) : St := xA (decDN s) v
noncomputable def loopA : St → Option LRes := loopG (fun p => sA p 0) okDN fA (.exit 2) (fun s _ => stA s .undef) .ret (fun s _ => stA s (.int .i64 1))
def sB (p : DN) (k : Int) : St := ⟨[(0, .slc 3 p.1.n (doorsF p.1)), (3, .int .i64 p.2), (4, .ptr 832 0), (6, .int .i64 k)], hpR p, 1920⟩
def xB (p : DN) (v : AV) : St := ⟨[(0, .slc 3 p.1.n (doorsF p.1)), (2, v), (3, .int .i64 p.2), (4, .ptr 832 0)], hpR p, 1920⟩
def stepB (q : Nat → Int) (i : Nat) (_ : Unit) : Unit ⊕ Unit := match decide (q i ≥ q (i - 1)) with | true => .inr () | false => .inl ()
def fB (p : DN) : Unit ⊕ Unit := runF (stepB (p.1.rest p.2)) (p.1.len p.2 - 1) 1 ()
def stB (s : St) (v : AV) : St := xB (decDN s) v
noncomputable def loopB : St → Option LRes := loopG (fun p => sB p 1) okDN fB (.exit 4) (fun s _ => stB s .undef) .ret (fun s _ => stB s (.int .i64 15))
/-! ### A list's head -/
def sO (d : Ds) (i : Int) : St := ⟨[(0, .slc 3 d.n (doorsF d)), (3, .int .i64 i)], [], 320⟩
def xO (v : AV) : St := ⟨[(2, v)], [], 320⟩
/-- What is said of a door. -/
def refV (d : Ds) (i : Nat) : Unit ⊕ Int := match decide (d.road i < 0) with
  | true => .inr 4
  | false => match decide (((d.len i : Nat) : Int) < 2) with
    | true => .inr 2
    | false => match decide (((d.len i : Nat) : Int) > 6) with
      | true => .inr 2
      | false => match fA (d, i) with
        | .inr _ => .inr 1
        | .inl _ => match fB (d, i) with
          | .inr _ => .inr 15
          | .inl _ => match d.other i != -1 with
            | true => (match decide (d.other i < 0) with
              | true => .inr 15
              | false => match decide (d.other i ≥ d.n) with
                | true => .inr 15
                | false => match d.other i == (i : Int) with
                  | true => .inr 15
                  | false => match d.other (d.other i).toNat != (i : Int) with
                    | true => .inr 15
                    | false => .inl ())
            | false => .inl ()
def fO (d : Ds) : Unit ⊕ Int := runF (fun i _ => refV d i) d.n 0 ()
noncomputable def loopO : St → Option LRes := loopG (fun d => sO d 0) DB fO (.exit 0) (fun _ _ => xO .undef) .ret (fun _ r => xO (.int .i64 r))
noncomputable def envR : Env := { envS (fun _ _ _ => none) (fun r => match r with | 4 => some ([0, 3], [2]) | 12 => some ([0, 3, 4, 5], [0, 2, 3, 4]) | 17 => some ([0, 3, 4, 6], [0, 2, 3, 4]) | _ => none) with loops := fun r => match r with | 4 => some loopO | 12 => some loopA | 17 => some loopB | _ => none }
theorem envR_ok : ∀ f, Tells Try.prog f (envR.fs f) := fun f => Tells.none_ f
noncomputable def bO : Code := loopOf 4 Try.f11
noncomputable def bA : Code := loopOf 12 Try.f11
noncomputable def bB : Code := loopOf 17 Try.f11
noncomputable def eR : Env := { envR with nt := 104 }
noncomputable def lA {R : Type} (N : Nat) (s : St) (K : AX → St → Option R) : Option R := aloop (fun s j => aexec eR bA s j) (headOf eR bA 1856) (exitOf eR bA 1856) N s K
noncomputable def lB {R : Type} (N : Nat) (s : St) (K : AX → St → Option R) : Option R := aloop (fun s j => aexec eR bB s j) (headOf eR bB 1920) (exitOf eR bB 1920) N s K
noncomputable def lO {R : Type} (N : Nat) (s : St) (K : AX → St → Option R) : Option R := aloop (fun s j => aexec eR bO s j) (headOf eR bO 320) (exitOf eR bO 320) N s K
theorem roundA {R : Type} (p : DN) (k : Int) (N : Nat) (K : AX → St → Option R) : lA (N + 1) (sA p k) K =
    match decide (k < ((p.1.len p.2 : Nat) : Int)) with
    | true => (match decide (0 ≤ k ∧ k < ((p.1.len p.2 : Nat) : Int)) with
      | true => (match decide (p.1.rest p.2 k.toNat < 0) with
        | true => K .ret (xA p (.int .i64 1))
        | false => match decide (0 ≤ k ∧ k < ((p.1.len p.2 : Nat) : Int)) with
          | true => (match decide (p.1.rest p.2 k.toNat > 262144) with
            | true => K .ret (xA p (.int .i64 1))
            | false => lA N (sA p (wr (k + 1))) K)
          | false => none)
      | false => none)
    | false => K (.exit 2) (xA p .undef) := by kernel_rfl
theorem roundB {R : Type} (p : DN) (k : Int) (N : Nat) (K : AX → St → Option R) : lB (N + 1) (sB p k) K =
    match decide (k < ((p.1.len p.2 : Nat) : Int)) with
    | true => (match decide (0 ≤ k ∧ k < ((p.1.len p.2 : Nat) : Int)) with
      | true => (match decide (0 ≤ wr (k - 1) ∧ wr (k - 1) < ((p.1.len p.2 : Nat) : Int)) with
        | true => (match decide (p.1.rest p.2 k.toNat ≥ p.1.rest p.2 (wr (k - 1)).toNat) with
          | true => K .ret (xB p (.int .i64 15))
          | false => lB N (sB p (wr (k + 1))) K)
        | false => none)
      | false => none)
    | false => K (.exit 4) (xB p .undef) := by kernel_rfl
theorem roundO {R : Type} (d : Ds) (i : Nat) (N : Nat) (K : AX → St → Option R) : lO (N + 1) (sO d i) K =
    match decide ((i : Int) < d.n) with
    | true => (match decide ((0 : Int) ≤ i ∧ (i : Int) < d.n) with
      | true => (match decide (d.road i < 0) with
        | true => K .ret (xO (.int .i64 4))
        | false => match decide (((d.len i : Nat) : Int) < 2) with
          | true => K .ret (xO (.int .i64 2))
          | false => match decide (((d.len i : Nat) : Int) > 6) with
            | true => K .ret (xO (.int .i64 2))
            | false => match gOf (fun p => sA p 0) okDN fA (sA (d, i) 0) with
              | some (.inl _) => (match gOf (fun p => sB p 1) okDN fB (sB (d, i) 1) with
                | some (.inl _) => (match d.other i != -1 with
                  | true => (match decide (d.other i < 0) with
                    | true => K .ret (xO (.int .i64 15))
                    | false => match decide (d.other i ≥ d.n) with
                      | true => K .ret (xO (.int .i64 15))
                      | false => match d.other i == (i : Int) with
                        | true => K .ret (xO (.int .i64 15))
                        | false => match decide (0 ≤ d.other i ∧ d.other i < d.n) with
                          | true => (match d.other (d.other i).toNat != (i : Int) with
                            | true => K .ret (xO (.int .i64 15))
                            | false => lO N (sO d (wr ((i : Int) + 1))) K)
                          | false => none)
                  | false => lO N (sO d (wr ((i : Int) + 1))) K)
                | some (.inr _) => K .ret (xO (.int .i64 15))
                | none => none)
              | some (.inr _) => K .ret (xO (.int .i64 1))
              | none => none)
      | false => none)
    | false => K (.exit 0) (xO .undef) := by kernel_rfl
theorem ltA : LoopTells eR bA loopA := lt_loopG fun p hp => by
  obtain ⟨hd, hi, hl1⟩ := hp
  have hl := hd.len p.2 hi
  unfold lim at hl
  refine ⟨p.1.len p.2 + 1, fun K => ?_⟩
  refine loop_run (fun N s K => lA N s K) (fun i (_ : Unit) => sA p i) (.exit 2) .ret (fun _ => xA p .undef) (fun _ => xA p (.int .i64 1)) (stepA (p.1.rest p.2)) (p.1.len p.2) K (fun i a N hi => ?_) (fun a N => ?_) (p.1.len p.2) 0 () (Nat.zero_add _)
  · show lA _ _ _ = _
    rw [roundA, ixok hi]
    refine kt (decide_eq_true (by omega)) ?_
    rw [wr_ok (by omega) (by omega)]
    unfold stepA
    rw [show ((i : Nat) : Int).toNat = i from rfl]
    dsimp only
    cases decide (p.1.rest p.2 i < 0) with
    | true => rfl
    | false => dsimp only; cases decide (p.1.rest p.2 i > 262144) <;> rfl
  · show lA _ _ _ = _
    rw [roundA]
    exact kf (decide_eq_false (by omega)) rfl
theorem ltB : LoopTells eR bB loopB := lt_loopG fun p hp => by
  obtain ⟨hd, hi, hl1⟩ := hp
  have hl := hd.len p.2 hi
  unfold lim at hl
  refine ⟨p.1.len p.2 - 1 + 1, fun K => ?_⟩
  refine loop_run1 (fun N s K => lB N s K) (fun i (_ : Unit) => sB p i) (.exit 4) .ret (fun _ => xB p .undef) (fun _ => xB p (.int .i64 15)) (stepB (p.1.rest p.2)) 1 (p.1.len p.2) K (fun i a N h0 hi => ?_) (fun a N => ?_) (p.1.len p.2 - 1) 1 () (Nat.le_refl _) (by omega)
  · show lB _ _ _ = _
    rw [roundB, ixok hi]
    refine kt (decide_eq_true (by omega)) ?_
    rw [wr_ok (x := (i : Int) + 1) (by omega) (by omega), wr_ok (x := (i : Int) - 1) (by omega) (by omega)]
    unfold stepB
    rw [show ((i : Nat) : Int).toNat = i from rfl, show ((i : Int) - 1).toNat = i - 1 by omega]
    dsimp only
    refine kt (decide_eq_true ⟨by omega, by omega⟩) ?_
    cases decide (p.1.rest p.2 i ≥ p.1.rest p.2 (i - 1)) <;> rfl
  · show lB _ _ _ = _
    rw [roundB]
    exact kf (decide_eq_false (by omega)) rfl
theorem ltO : LoopTells eR bO loopO := lt_loopG fun d hd => by
  have hl := hd.n
  unfold lim at hl
  refine ⟨d.n + 1, fun K => ?_⟩
  refine loop_run (fun N s K => lO N s K) (fun i (_ : Unit) => sO d i) (.exit 0) .ret (fun _ => xO .undef) (fun r => xO (.int .i64 r)) (fun i _ => refV d i) d.n K (fun i a N hi => ?_) (fun a N => ?_) d.n 0 () (Nat.zero_add _)
  · show lO _ _ _ = _
    rw [roundO, ixok hi]
    refine kt (decide_eq_true (by omega)) ?_
    rw [wr_ok (by omega) (by omega)]
    unfold refV
    dsimp only
    cases decide (d.road i < 0) with
    | true => rfl
    | false =>
      dsimp only
      cases h2 : decide (((d.len i : Nat) : Int) < 2) with
      | true => rfl
      | false =>
        have h2 := of_decide_eq_false h2
        dsimp only
        cases decide (((d.len i : Nat) : Int) > 6) with
        | true => rfl
        | false =>
          dsimp only
          have ok : okDN (d, i) := ⟨hd, hi, (by show 1 ≤ d.len i; omega)⟩
          rw [gOf_eq (fun p => sA p 0) decDN (fun _ => rfl) okDN fA (d, i) ok, gOf_eq (fun p => sB p 1) decDN (fun _ => rfl) okDN fB (d, i) ok]
          try dsimp only
          cases fA (d, i) with
          | inr _ => rfl
          | inl _ =>
            dsimp only
            cases fB (d, i) with
            | inr _ => rfl
            | inl _ =>
              dsimp only
              cases d.other i != -1 with
              | false => rfl
              | true =>
                dsimp only
                cases h3 : decide (d.other i < 0) with
                | true => rfl
                | false =>
                  dsimp only
                  cases h4 : decide (d.other i ≥ d.n) with
                  | true => rfl
                  | false =>
                    have h3 := of_decide_eq_false h3
                    have h4 := of_decide_eq_false h4
                    dsimp only
                    cases d.other i == (i : Int) with
                    | true => rfl
                    | false =>
                      dsimp only
                      refine kt (decide_eq_true ⟨by omega, by omega⟩) ?_
                      cases d.other (d.other i).toNat != (i : Int) <;> rfl
  · show lO _ _ _ = _
    rw [roundO]
    exact kf (decide_eq_false (by omega)) rfl

/-! ### It says what the program says -/
theorem runA_I (q : Nat → Int) : ∀ k i, (runF (stepA q) k i () = .inl () ∧ runF (stepI q) k i () = .inl ()) ∨ (runF (stepA q) k i () = .inr () ∧ ∃ r : Int, 0 ≤ r ∧ runF (stepI q) k i () = .inr r) := by
  intro k
  induction k with
  | zero => intro i; exact .inl ⟨rfl, rfl⟩
  | succ k ih =>
    intro i
    unfold runF stepA stepI outB
    cases decide (q i < 0) with
    | true => exact .inr ⟨rfl, _, Int.natCast_nonneg i, rfl⟩
    | false =>
      dsimp only
      cases decide (q i > 262144) with
      | true => exact .inr ⟨rfl, _, Int.natCast_nonneg i, rfl⟩
      | false => exact ih (i + 1)
theorem anyOut_A (d : Ds) (i : Nat) : anyOut (d.rest i) (d.len i) = match fA (d, i) with | .inr _ => true | .inl _ => false := by
  unfold anyOut idxV fA
  dsimp only
  rcases runA_I (d.rest i) (d.len i) 0 with ⟨h1, h2⟩ | ⟨h1, r, h3, h2⟩
  · rw [h1, h2]; rfl
  · rw [h1, h2]; exact decide_eq_true h3
theorem runB_E (q : Nat → Int) : ∀ k i, 1 ≤ i → runF (stepB q) k i () = runF (stepE q) k i () := by
  intro k
  induction k with
  | zero => intro i _; rfl
  | succ k ih =>
    intro i hi
    unfold runF
    have e : stepE q i () = stepB q i () := by
      unfold stepE stepB
      rw [show decide (0 < i) = true from decide_eq_true hi]
      rfl
    rw [e]
    cases stepB q i () with
    | inl _ => exact ih (i + 1) (by omega)
    | inr _ => rfl
theorem descV_B (d : Ds) (i : Nat) (h : 1 ≤ d.len i) : descV (d.rest i) (d.len i) = match fB (d, i) with | .inr _ => false | .inl _ => true := by
  unfold descV fB
  dsimp only
  rw [runB_E _ _ _ (Nat.le_refl _)]
  obtain ⟨m, hm⟩ : ∃ m, d.len i = m + 1 := ⟨d.len i - 1, by omega⟩
  rw [hm]
  show (match runF (stepE (d.rest i)) m 1 () with | .inl _ => true | .inr _ => false) = _
  rw [Nat.add_sub_cancel]
  cases runF (stepE (d.rest i)) m 1 () <;> rfl
theorem refV_eq (d : Ds) (i : Nat) : refV d i = stepK d i () := by
  unfold stepK refV doorV
  cases decide (d.road i < 0) with
  | true => rfl
  | false =>
    dsimp only
    cases h2 : decide (((d.len i : Nat) : Int) < 2) with
    | true => rfl
    | false =>
      have h2 := of_decide_eq_false h2
      dsimp only
      cases decide (((d.len i : Nat) : Int) > 6) with
      | true => rfl
      | false =>
        dsimp only
        rw [anyOut_A, descV_B d i (by omega)]
        cases fA (d, i) with
        | inr _ => rfl
        | inl _ =>
          dsimp only
          cases fB (d, i) with
          | inr _ => rfl
          | inl _ =>
            dsimp only
            unfold pairB
            rw [show ((i : Nat) : Int).toNat = i from rfl]
            by_cases h1 : d.other i = -1
            · simp [h1]
            · have e1 : (d.other i == -1) = false := by simpa using h1
              have e2 : (d.other i != -1) = true := by simpa using h1
              rw [e1, e2]
              dsimp only
              by_cases h3 : d.other i < 0
              · have e3 : hasB d.n (d.other i) = false := by
                  cases h : hasB d.n (d.other i) with
                  | false => rfl
                  | true => have := hasB_iff.1 h; omega
                rw [e3, show decide (d.other i < 0) = true from decide_eq_true h3]
                cases d.other i != (i : Int) <;> rfl
              · rw [show decide (d.other i < 0) = false from decide_eq_false h3]
                dsimp only
                by_cases h4 : d.other i ≥ d.n
                · have e3 : hasB d.n (d.other i) = false := by
                    cases h : hasB d.n (d.other i) with
                    | false => rfl
                    | true => have := hasB_iff.1 h; omega
                  rw [e3, show decide (d.other i ≥ d.n) = true from decide_eq_true h4]
                  cases d.other i != (i : Int) <;> rfl
                · rw [show decide (d.other i ≥ d.n) = false from decide_eq_false h4, show hasB d.n (d.other i) = true from hasB_iff.2 ⟨by omega, by omega⟩]
                  dsimp only
                  by_cases h5 : d.other i = (i : Int)
                  · simp [h5]
                  · have e5 : (d.other i == (i : Int)) = false := by simpa using h5
                    have e6 : (d.other i != (i : Int)) = true := by simpa using h5
                    rw [e5, e6]
                    dsimp only
                    by_cases h6 : d.other (d.other i).toNat = (i : Int)
                    · simp [h6]
                    · have e7 : (d.other (d.other i).toNat == (i : Int)) = false := by simpa using h6
                      have e8 : (d.other (d.other i).toNat != (i : Int)) = true := by simpa using h6
                      rw [e7, e8]
                      rfl
theorem fO_eq (d : Ds) : fO d = fK d := by
  unfold fO fK
  rw [show (fun i (_ : Unit) => refV d i) = stepK d from funext fun i => funext fun _ => refV_eq d i]
theorem run_checkR (d : Ds) : arun envR Try.f11 [.slc 3 d.n (doorsF d)] [] =
    match decide ((d.n : Int) > 16) with
    | true => some (.int .i64 2, [])
    | false => match gOf (fun d => sO d 0) DB fO (sO d 0) with
      | some (.inl _) => some (.int .i64 0, [])
      | some (.inr r) => some (.int .i64 r, [])
      | none => none := by kernel_rfl
attribute [local irreducible] arun in
theorem tells_checkR : Tells Try.prog 11 check? := by
  refine tells_run (E := envR) rfl Try.pok envR_ok Try.func11 (fun c hc => ?_) fun xs ins r x h hx => ?_
  · refine loops_of c fun c' hc' f hf => ?_
    have hb : loopsOf c = [bO, bA, bB] := by
      have : Try.f11.body.map loopsOf = some [bO, bA, bB] := by kernel_rfl
      rw [hc] at this
      injection this
    rw [hb] at hc'
    rcases List.mem_cons.1 hc' with rfl | hc'
    · have h6 : firstReg bO = 4 := by kernel_rfl
      rw [h6] at hf
      injection hf with hf
      subst hf
      exact ltO
    · rcases List.mem_cons.1 hc' with rfl | hc'
      · have h6 : firstReg bA = 12 := by kernel_rfl
        rw [h6] at hf
        injection hf with hf
        subst hf
        exact ltA
      · obtain rfl := List.mem_singleton.1 hc'
        have h6 : firstReg bB = 17 := by kernel_rfl
        rw [h6] at hf
        injection hf with hf
        subst hf
        exact ltB
  · unfold check? at h
    split at h
    · injection h with h
      subst h
      obtain ⟨z, hx, ha, ho⟩ := intA_get hx
      rw [ha, ho]
      obtain ⟨d, rfl, rfl, hd, rfl⟩ := ofD_some hx
      rw [run_checkR, gOf_eq _ (decK 0) (fun _ => rfl) DB fO d hd, fO_eq]
      show _ = some (AV.int .i64 (checkV d), [])
      unfold checkV
      cases decide ((d.n : Int) > 16) with
      | true => rfl
      | false =>
        dsimp only
        cases fK d <;> rfl
    · cases h
end Go.Proofs.Ytegimoedpoemfaa.Ab
