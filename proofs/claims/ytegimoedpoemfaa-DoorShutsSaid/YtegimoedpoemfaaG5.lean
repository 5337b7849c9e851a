/- Stage 8, the sanity check; loops by their rounds, in general; small functions, by the plain evaluator. -/
import Derived.Test.YtegimoedpoemfaaG4
namespace Go.Proofs.Ytegimoedpoemfaa.Ab
open Go

theorem awake8_run : arun (envN Try.prog 100 20) Try.f8 [] [] = some (.bool true, []) := by kernel_rfl
def awake? : List AV → List Blk → Option Ans
  | [], [] => some (retV (.bool true))
  | _, _ => none
attribute [local irreducible] arun in
theorem tells_awake8 : Tells Try.prog 8 awake? := by
  refine (envN_tells Try.pok 100 21 8).of fun xs ins r x h _ => ?_
  unfold awake? at h
  split at h
  · injection h with h
    subst h
    exact ⟨runAns (envN Try.prog 100 20) Try.f8 [] [], (.bool true, []), rfl, awake8_run, rfl, rfl⟩
  · cases h

/-! ### Loops, by their rounds -/
def runF {A B : Type} (step : Nat → A → A ⊕ B) : Nat → Nat → A → A ⊕ B
  | 0, _, a => .inl a
  | k + 1, i, a => match step i a with
    | .inl a' => runF step k (i + 1) a'
    | .inr b => .inr b
theorem loop_run {A B R : Type} (L : Nat → St → (AX → St → Option R) → Option R) (head : Nat → A → St) (ax ar : AX) (exN : A → St) (exR : B → St) (step : Nat → A → A ⊕ B) (n : Nat) (K : AX → St → Option R)
    (hr : ∀ i a N, i < n → L (N + 1) (head i a) K = match step i a with | .inl a' => L N (head (i + 1) a') K | .inr b => K ar (exR b))
    (hl : ∀ a N, L (N + 1) (head n a) K = K ax (exN a)) : ∀ k i a, i + k = n → L (k + 1) (head i a) K = match runF step k i a with | .inl a' => K ax (exN a') | .inr b => K ar (exR b) := by
  intro k
  induction k with
  | zero => intro i a h; obtain rfl : i = n := by omega
            exact hl a 0
  | succ k ih =>
    intro i a h
    rw [hr i a _ (by omega)]
    unfold runF
    cases step i a with
    | inl a' => exact ih (i + 1) a' (by omega)
    | inr b => rfl
/-- What a function of what made a state says of it. -/
noncomputable def gOf {Pm Z : Type} (s : Pm → St) (ok : Pm → Prop) (f : Pm → Z) (x : St) : Option Z := theOne fun z => ∃ p, x = s p ∧ ok p ∧ z = f p
theorem gOf_eq {Pm Z : Type} (s : Pm → St) (dec : St → Pm) (hd : ∀ p, dec (s p) = p) (ok : Pm → Prop) (f : Pm → Z) (p : Pm) (h : ok p) : gOf s ok f (s p) = some (f p) :=
  theOne_eq ⟨p, rfl, h, rfl⟩ fun z ⟨p', e, _, hz⟩ => by
    have := congrArg dec e
    rw [hd, hd] at this
    rw [hz, this]
/-- A loop's contract, by the state at its head. -/
noncomputable def loopG {Pm A B : Type} (s : Pm → St) (ok : Pm → Prop) (f : Pm → A ⊕ B) (axl : AX) (stl : St → A → St) (axr : AX) (str : St → B → St) (x : St) : Option LRes := some ⟨A, B, gOf s ok f x, axl, stl x, axr, str x⟩
theorem lt_loopG {E : Env} {c : Code} {Pm A B : Type} {s : Pm → St} {ok : Pm → Prop} {f : Pm → A ⊕ B} {axl axr : AX} {stl : St → A → St} {str : St → B → St}
    (run : ∀ p, ok p → ∃ N, ∀ {R : Type} (K : AX → St → Option R), aloop (fun s j => aexec E c s j) (headOf E c (s p).c) (exitOf E c (s p).c) N (s p) K = match f p with | .inl x => K axl (stl (s p) x) | .inr y => K axr (str (s p) y)) :
    LoopTells E c (loopG s ok f axl stl axr str) := by
  intro x r z hr hz
  injection hr with hr
  subst hr
  obtain ⟨p, rfl, hp, rfl⟩ := theOne_spec (show theOne _ = some z from hz)
  obtain ⟨N, hN⟩ := run p hp
  refine ⟨N, fun k => (hN k).trans ?_⟩
  cases f p <;> rfl

/-! ### What is read -/
def lim : Nat := 9223372036854775807
def decI (F : Nat → List AV) : Nat → Int := fun k => intOf (F k)
theorem decI_eq (q : Nat → Int) : decI (intsF q) = q := rfl
open Classical in
/-- What is said of numbers that are read. -/
noncomputable def ofI {Z : Type} (n : Nat) (F : Nat → List AV) (f : (Nat → Int) → Z) : Option Z := if n ≤ lim ∧ F = intsF (decI F) then some (f (decI F)) else none
theorem ofI_eq {Z : Type} {n : Nat} (q : Nat → Int) (f : (Nat → Int) → Z) (h : n ≤ lim) : ofI n (intsF q) f = some (f q) := by
  unfold ofI
  rw [if_pos ⟨h, rfl⟩]
  rfl
theorem ofI_some {Z : Type} {n : Nat} {F : Nat → List AV} {f : (Nat → Int) → Z} {z : Z} (h : ofI n F f = some z) : n ≤ lim ∧ ∃ q, F = intsF q ∧ z = f q := by
  unfold ofI at h
  split at h
  · rename_i hq
    injection h with h
    exact ⟨hq.1, decI F, hq.2, h.symm⟩
  · cases h
def decD (n : Nat) (F : Nat → List AV) : Ds := ⟨n, fun k => match F k with | [.int _ r, _, _] => r | _ => 0, fun k => match F k with | [_, .int _ r, _] => r | _ => 0, fun k => match F k with | [_, _, .slc _ m _] => m | _ => 0, fun k => match F k with | [_, _, .slc _ _ G] => decI G | _ => fun _ => 0⟩
theorem decD_eq (d : Ds) : decD d.n (doorsF d) = d := rfl
structure DB (d : Ds) : Prop where
  n : d.n ≤ lim
  len : ∀ k, k < d.n → d.len k ≤ lim
open Classical in
/-- What is said of doors that are read. -/
noncomputable def ofD {Z : Type} (n : Nat) (F : Nat → List AV) (f : Ds → Z) : Option Z := if DB (decD n F) ∧ F = doorsF (decD n F) then some (f (decD n F)) else none
theorem ofD_eq {Z : Type} (d : Ds) (f : Ds → Z) (h : DB d) : ofD d.n (doorsF d) f = some (f d) := by
  unfold ofD
  rw [decD_eq, if_pos ⟨h, rfl⟩]
theorem ofD_some {Z : Type} {n : Nat} {F : Nat → List AV} {f : Ds → Z} {z : Z} (h : ofD n F f = some z) : ∃ d : Ds, d.n = n ∧ F = doorsF d ∧ DB d ∧ z = f d := by
  unfold ofD at h
  split at h
  · rename_i hq
    injection h with h
    exact ⟨decD n F, rfl, hq.2, hq.1, h.symm⟩
  · cases h
/-- An answer that is a plain number. -/
def intA (o : Option Int) : Ans := ⟨⟨Int, o, fun z => .int .i64 z, fun _ => []⟩, fun _ => true, fun _ _ => ⟨rfl, fun b hb => by cases hb⟩⟩
def boolA (o : Option Bool) : Ans := ⟨⟨Bool, o, fun z => .bool z, fun _ => []⟩, fun _ => true, fun _ _ => ⟨rfl, fun b hb => by cases hb⟩⟩
def spanR (s : Int × Int) : AV := .agg [.int .i64 s.1, .int .i64 s.2]
def spanX (o : Option (Int × Int)) : Ans := ⟨⟨Int × Int, o, spanR, fun _ => []⟩, fun _ => true, fun _ _ => ⟨rfl, fun b hb => by cases hb⟩⟩

theorem intA_get {o : Option Int} {x : (intA o).α} (h : (intA o).get = some x) : ∃ z : Int, o = some z ∧ (intA o).av x = .int .i64 z ∧ (intA o).outs x = [] := ⟨x, h, rfl, rfl⟩
theorem boolA_get {o : Option Bool} {x : (boolA o).α} (h : (boolA o).get = some x) : ∃ z : Bool, o = some z ∧ (boolA o).av x = .bool z ∧ (boolA o).outs x = [] := ⟨x, h, rfl, rfl⟩
theorem spanX_get {o : Option (Int × Int)} {x : (spanX o).α} (h : (spanX o).get = some x) : ∃ z : Int × Int, o = some z ∧ (spanX o).av x = spanR z ∧ (spanX o).outs x = [] := ⟨x, h, rfl, rfl⟩

/-! ### Small functions -/
def hasB (t x : Int) : Bool := match decide (0 ≤ x) with | true => decide (x < t) | false => false
def has? : List AV → List Blk → Option Ans
  | [.int .i64 t, .int .i64 x], [] => some (retV (.bool (hasB t x)))
  | _, _ => none
theorem run_has (t x : Int) : arun env0 Try.f28 [.int .i64 t, .int .i64 x] [] = match decide (0 ≤ x) with | true => some (.bool (decide (x < t)), []) | false => some (.bool false, []) := by kernel_rfl
theorem env0_ok : ∀ f, Tells Try.prog f (env0.fs f) := fun f => Tells.none_ f
def outB (x : Int) : Bool := match decide (x < 0) with | true => true | false => decide (x > 262144)
def out? : List AV → List Blk → Option Ans
  | [.int .i64 x], [] => some (retV (.bool (outB x)))
  | _, _ => none
theorem run_out (x : Int) : arun env0 Try.f36 [.int .i64 x] [] = match decide (x < 0) with | true => some (.bool true, []) | false => some (.bool (decide (x > 262144)), []) := by kernel_rfl
attribute [local irreducible] arun in
theorem tells_has : Tells Try.prog 28 has? := by
  refine tells_run (E := env0) rfl Try.pok env0_ok Try.func28 (fun c _ => envS_loops c) fun xs ins r x h _ => ?_
  · unfold has? at h
    split at h
    · injection h with h
      subst h
      rw [run_has]
      show _ = some (AV.bool (hasB _ _), [])
      unfold hasB
      split <;> rfl
    · cases h
attribute [local irreducible] arun in
theorem tells_out : Tells Try.prog 36 out? := by
  refine tells_run (E := env0) rfl Try.pok env0_ok Try.func36 (fun c _ => envS_loops c) fun xs ins r x h _ => ?_
  · unfold out? at h
    split at h
    · injection h with h
      subst h
      rw [run_out]
      show _ = some (AV.bool (outB _), [])
      unfold outB
      split <;> rfl
    · cases h
end Go.Proofs.Ytegimoedpoemfaa.Ab
