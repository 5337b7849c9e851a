/- Maths of mirrors: loops. -/
import Derived.Test.YthkdmemkjojmoaaZK
namespace Go.Proofs.Ythkdmemkjojmoaa.Ab
open Go

theorem wr_ok {x : Int} (h0 : -9223372036854775808 ≤ x) (h1 : x ≤ 9223372036854775807) : wr x = x := by show IntKind.i64.wrap x = x; rw [IntKind.wrap_i64]; omega
theorem wr_next {i : Nat} (h : i ≤ 4611686018427387904) : wr ((i : Int) + 1) = ((i + 1 : Nat) : Int) := by rw [wr_ok (by omega) (by omega)]; omega
theorem last_nat2 {n : Nat} (h0 : 1 ≤ n) (h : n ≤ 1000000) : wr ((n : Int) - 1) = ((n - 1 : Nat) : Int) := by rw [wr_ok (by omega) (by omega)]; omega
theorem toNat_nat (i : Nat) : Int.toNat (i : Int) = i := rfl
theorem dlt {i n : Nat} (h : i < n) : decide ((i : Int) < (n : Int)) = true := decide_eq_true (by omega)
theorem dge {i n : Nat} (h : n ≤ i) : decide ((i : Int) < (n : Int)) = false := decide_eq_false (by omega)
theorem dix {i n : Nat} (h : i < n) : decide ((0 : Int) ≤ (i : Int) ∧ (i : Int) < (n : Int)) = true := decide_eq_true ⟨by omega, by omega⟩
def runF {A B : Type} (step : Nat → A → A ⊕ B) : Nat → Nat → A → A ⊕ B
  | 0, _, a => .inl a
  | k + 1, i, a => match step i a with
    | .inl a' => runF step k (i + 1) a'
    | .inr b => .inr b
def firstN {B : Type} (g : Nat → Option B) : Nat → Nat → Option B
  | 0, _ => none
  | k + 1, i => match g i with
    | some b => some b
    | none => firstN g k (i + 1)
theorem fixO_get {V A B : Type} {step : V → DT (LR V A B)} {v : V} {x : LR V A B} : (step v).get = some x → fixO step v = LR.elim (fixO step) (fun a => some (.inl a)) (fun b => some (.inr b)) x := by
  intro h
  rw [fixO_step, DT.run_get, h]
  cases x <;> rfl
/-- A loop along a sequence of states. -/
theorem loop_seq {V A B : Type} {step : V → DT (LR V A B)} (vs : Nat → V) (n : Nat) {z : LR V A B} (h : ∀ i, i < n → (step (vs i)).get = some (.next (vs (i + 1)))) : (step (vs n)).get = some z → fixO step (vs 0) = LR.elim (fixO step) (fun a => some (.inl a)) (fun b => some (.inr b)) z := by
  intro hl
  have key : ∀ k i, i + k = n → fixO step (vs i) = LR.elim (fixO step) (fun a => some (.inl a)) (fun b => some (.inr b)) z := by
    intro k
    induction k with
    | zero => intro i hi; obtain rfl : i = n := by omega
              exact fixO_get hl
    | succ k ih => intro i hi; rw [fixO_get (h i (by omega))]; exact ih (i + 1) (by omega)
  exact key n 0 (Nat.zero_add _)
/-- A loop that counts, with what it carries. -/
theorem loop_inv {V A B S : Type} {step : V → DT (LR V A B)} (st : Nat → S → V) (n : Nat) (Inv : Nat → S → Prop) (F : Nat → S → S ⊕ B) (fin : S → A)
    (h : ∀ i s, i < n → Inv i s → (step (st i s)).get = some (match F i s with | .inl s' => .next (st (i + 1) s') | .inr b => .r b))
    (hI : ∀ i s s', i < n → Inv i s → F i s = .inl s' → Inv (i + 1) s')
    (hl : ∀ s, Inv n s → (step (st n s)).get = some (.l (fin s))) :
    ∀ k i s, i + k = n → Inv i s → fixO step (st i s) = some (match runF F k i s with | .inl s' => .inl (fin s') | .inr b => .inr b) := by
  intro k
  induction k with
  | zero =>
    intro i s hi hs
    obtain rfl : i = n := by omega
    rw [fixO_get (hl s hs)]
    rfl
  | succ k ih =>
    intro i s hi hs
    rw [fixO_get (h i s (by omega) hs)]
    unfold runF
    cases hf : F i s with
    | inl s' => exact ih (i + 1) s' (by omega) (hI i s s' (by omega) hs hf)
    | inr b => rfl
/-- A loop that only counts. -/
theorem loop_first {B : Type} {step : Int → DT (LR Int Unit B)} {n : Nat} (g : Nat → Option B)
    (h : ∀ i : Nat, i < n → (step (i : Int)).get = some (match g i with | some b => .r b | none => .next ((i + 1 : Nat) : Int)))
    (hl : (step (n : Int)).get = some (.l ())) : ∀ k i, i + k = n → fixO step (i : Int) = some (match firstN g k i with | some b => .inr b | none => .inl ()) := by
  intro k
  induction k with
  | zero =>
    intro i hi
    obtain rfl : i = n := by omega
    rw [fixO_get hl]
    rfl
  | succ k ih =>
    intro i hi
    rw [fixO_get (h i (by omega))]
    unfold firstN
    cases hf : g i with
    | some b => rfl
    | none => exact ih (i + 1) (by omega)
theorem loop_from {B : Type} {step : Int → DT (LR Int Unit B)} {n : Nat} (i0 : Nat) (g : Nat → Option B)
    (h : ∀ i : Nat, i0 ≤ i → i < n → (step (i : Int)).get = some (match g i with | some b => .r b | none => .next ((i + 1 : Nat) : Int)))
    (hl : (step (n : Int)).get = some (.l ())) : ∀ k i, i0 ≤ i → i + k = n → fixO step (i : Int) = some (match firstN g k i with | some b => .inr b | none => .inl ()) := by
  intro k
  induction k with
  | zero =>
    intro i _ hi
    obtain rfl : i = n := by omega
    rw [fixO_get hl]
    rfl
  | succ k ih =>
    intro i h0 hi
    rw [fixO_get (h i h0 (by omega))]
    unfold firstN
    cases hf : g i with
    | some b => rfl
    | none => exact ih (i + 1) (by omega) (by omega)
theorem firstN_congr {B : Type} {g g' : Nat → Option B} {n : Nat} (h : ∀ i, i < n → g i = g' i) : ∀ k i, i + k ≤ n → firstN g k i = firstN g' k i := by
  intro k
  induction k with
  | zero => intro i _; rfl
  | succ k ih =>
    intro i hi
    unfold firstN
    rw [h i (by omega), ih (i + 1) (by omega)]
theorem firstN_none {B : Type} {g : Nat → Option B} : ∀ {k i : Nat}, firstN g k i = none → ∀ j, i ≤ j → j < i + k → g j = none := by
  intro k
  induction k with
  | zero => intro i _ j h1 h2; omega
  | succ k ih =>
    intro i h j h1 h2
    unfold firstN at h
    cases hg : g i with
    | some b => rw [hg] at h; cases h
    | none =>
      rw [hg] at h
      by_cases hj : j = i
      · subst hj; exact hg
      · exact ih h j (by omega) (by omega)
theorem firstN_all {B : Type} {g : Nat → Option B} : ∀ {k i : Nat}, (∀ j, i ≤ j → j < i + k → g j = none) → firstN g k i = none := by
  intro k
  induction k with
  | zero => intro i _; rfl
  | succ k ih =>
    intro i h
    unfold firstN
    rw [h i (Nat.le_refl _) (by omega)]
    exact ih fun j h1 h2 => h j (by omega) (by omega)
theorem firstN_some {B : Type} {g : Nat → Option B} {b : B} : ∀ {k i : Nat}, firstN g k i = some b → ∃ j, i ≤ j ∧ j < i + k ∧ g j = some b ∧ ∀ l, i ≤ l → l < j → g l = none := by
  intro k
  induction k with
  | zero => intro i h; cases h
  | succ k ih =>
    intro i h
    unfold firstN at h
    cases hg : g i with
    | some c =>
      rw [hg] at h
      injection h with h
      subst h
      exact ⟨i, Nat.le_refl _, by omega, hg, fun l h1 h2 => by omega⟩
    | none =>
      rw [hg] at h
      obtain ⟨j, h1, h2, h3, h4⟩ := ih h
      refine ⟨j, by omega, by omega, h3, fun l h5 h6 => ?_⟩
      by_cases hl : l = i
      · subst hl; exact hg
      · exact h4 l (by omega) h6
/-- A loop comes to an end, with what holds all the time. -/
theorem loop_ex {V A B : Type} {step : V → DT (LR V A B)} (Inv : V → Prop) (m : V → Nat) (Q : A ⊕ B → Prop)
    (h : ∀ v, Inv v → ∃ x, (step v).get = some x ∧ (match x with | .next v' => Inv v' ∧ m v' < m v | .l a => Q (.inl a) | .r b => Q (.inr b))) :
    ∀ v, Inv v → ∃ z, fixO step v = some z ∧ Q z := by
  have key : ∀ n v, m v ≤ n → Inv v → ∃ z, fixO step v = some z ∧ Q z := by
    intro n
    induction n with
    | zero =>
      intro v hm hv
      obtain ⟨x, hx, hq⟩ := h v hv
      rw [fixO_get hx]
      cases x with
      | next v' => exact absurd hq.2 (by omega)
      | l a => exact ⟨_, rfl, hq⟩
      | r b => exact ⟨_, rfl, hq⟩
    | succ n ih =>
      intro v hm hv
      obtain ⟨x, hx, hq⟩ := h v hv
      rw [fixO_get hx]
      cases x with
      | next v' => exact ih v' (by have := hq.2; omega) hq.1
      | l a => exact ⟨_, rfl, hq⟩
      | r b => exact ⟨_, rfl, hq⟩
  exact fun v hv => key (m v) v (Nat.le_refl _) hv
theorem get_bind {R Z : Type} {o : Option Z} {k : Z → DT R} {z : Z} (h : o = some z) : (DT.bind o k).get = (k z).get := by subst h; rfl
theorem get_sum {R A B : Type} {o : Option (A ⊕ B)} {f : A → DT R} {g : B → DT R} {z : A ⊕ B} : o = some z → (DT.sum o f g).get = Sum.elim (fun a => (f a).get) (fun b => (g b).get) z := by intro h; subst h; cases z <;> rfl
theorem get_t {R : Type} {b : Bool} {x y : DT R} (h : b = true) : (DT.ite b x y).get = x.get := by subst h; rfl
theorem get_f {R : Type} {b : Bool} {x y : DT R} (h : b = false) : (DT.ite b x y).get = y.get := by subst h; rfl
end Go.Proofs.Ythkdmemkjojmoaa.Ab
