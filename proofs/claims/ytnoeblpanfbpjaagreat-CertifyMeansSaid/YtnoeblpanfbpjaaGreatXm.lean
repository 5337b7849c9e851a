/- Stage 9, maths: the errors of mines, fans, doors and airs, by the program and by the document. -/
import Derived.Test.YtnoeblpanfbpjaaGreatXb
import Derived.Test.YtnoeblpanfbpjaaGreatZn
namespace Go.Proofs.YtnoeblpanfbpjaaGreat.Ab
open Go

theorem plan_within_v (n lo hi : Int) : plan_within n lo hi = some (decide (lo ≤ n ∧ n ≤ hi)) := by
  rw [plan_within_eq]; unfold plan_within_t; simp only [DT.get_ite, DT.get_leaf]; split <;> simp_all <;> omega
theorem fan_within_v (n lo hi : Int) : fan_within n lo hi = some (decide (lo ≤ n ∧ n ≤ hi)) := by
  rw [fan_within_eq]; unfold fan_within_t; simp only [DT.get_ite, DT.get_leaf]; split <;> simp_all <;> omega
theorem branch_within_v (n lo hi : Int) : branch_within n lo hi = some (decide (lo ≤ n ∧ n ≤ hi)) := by
  rw [branch_within_eq]; unfold branch_within_t; simp only [DT.get_ite, DT.get_leaf]; split <;> simp_all <;> omega
theorem plan_spans_v (s : SSpan) (lo hi : Int) : plan_spans s lo hi = some (decide (lo ≤ s.Low ∧ s.Low ≤ s.High ∧ s.High ≤ hi)) := by
  rw [plan_spans_eq]; unfold plan_spans_t; simp only [DT.get_ite, DT.get_leaf]; split
  · split <;> simp_all <;> omega
  · simp_all; omega
theorem ref01_Span_v (s : SSpan) (lo hi : Int) : ref01_Span s lo hi = some (decide (lo ≤ s.Low ∧ s.Low ≤ s.High ∧ s.High ≤ hi)) := by
  rw [ref01_Span_eq]; unfold ref01_Span_t; simp only [DT.get_ite, DT.get_leaf]; split
  · split <;> simp_all <;> omega
  · simp_all; omega
theorem fan_falls_v (p q : SPoint) : fan_falls p q = some (decide (p.Flow < q.Flow ∧ q.Pressure ≤ p.Pressure)) := by
  rw [fan_falls_eq]; unfold fan_falls_t; simp only [DT.get_ite, DT.get_leaf]; split <;> simp_all <;> omega
theorem door_has_v (n k : Int) : door_has n k = some (decide (0 ≤ k ∧ k < n)) := by
  rw [door_has_eq]; unfold door_has_t; simp only [DT.get_ite, DT.get_leaf]; split <;> simp_all <;> omega
theorem door_outOfRange_v (r : Int) : door_outOfRange r = some (decide (¬ (0 ≤ r ∧ r ≤ 262144))) := by
  rw [door_outOfRange_eq]; unfold door_outOfRange_t; simp only [DT.get_ite, DT.get_leaf]
  split <;> simp_all

/-! ### Mines -/
/-- The first error of a road. -/
def roadE (r : SRoad) (p : Int) : Int :=
  if ¬ (0 ≤ r.From ∧ r.From ≤ p - 1) then 4 else if ¬ (0 ≤ r.To ∧ r.To ≤ p - 1) then 4 else if r.From = r.To then 4
  else if ¬ (1 ≤ r.Length ∧ r.Length ≤ 100000) then 1 else if ¬ (1 ≤ r.Area ∧ r.Area ≤ 1000) then 1
  else if ¬ (1 ≤ r.Rest.Low ∧ r.Rest.Low ≤ r.Rest.High ∧ r.Rest.High ≤ 262144) then 1
  else if ¬ (-2199023255552 ≤ r.Lift.Low ∧ r.Lift.Low ≤ r.Lift.High ∧ r.Lift.High ≤ 2199023255552) then 1 else 0
theorem plan_checkRoad_v (r : SRoad) (p : Int) (h0 : 0 ≤ p) (h1 : p ≤ 1000) : plan_checkRoad r p = some (roadE r p) := by
  rw [plan_checkRoad_eq]; unfold plan_checkRoad_t roadE
  rw [wr_ok (by omega) (by omega)]
  simp only [plan_within_v, plan_spans_v, DT.get_some, DT.get_ite, DT.get_leaf, Bool.not_eq_true', decide_eq_false_iff_not, beq_iff_eq]
  repeat' (split; · rfl)
  rfl
def gP (P : Sq SPlace) (i : Nat) : Option Unit := if -10000 ≤ (P.f i).Height ∧ (P.f i).Height ≤ 10000 then none else some ()
def gR (np : Nat) (R : Sq SRoad) (i : Nat) : Option Int := if roadE (R.f i) np = 0 then none else some (roadE (R.f i) np)
def sumO {B : Type} : Option B → Unit ⊕ B
  | some b => .inr b
  | none => .inl ()
theorem sumO_eq {B : Type} (o : Option B) : (match o with | some b => (.inr b : Unit ⊕ B) | none => .inl ()) = sumO o := by cases o <;> rfl
theorem plan_Check_l4_v (P : Sq SPlace) (R : Sq SRoad) (h : P.n ≤ 64) : plan_Check_l4 P R 0 = some (sumO (firstN (gP P) P.n 0)) := by
  rw [plan_Check_l4_eq, ← sumO_eq]
  refine loop_first (step := fun v => plan_Check_l4_step P R v) (gP P) (fun i hi => ?_) ?_ P.n 0 (Nat.zero_add _)
  · unfold plan_Check_l4_step gP
    rw [get_t (dlt hi), get_t (dix hi), wr_next (by omega), toNat_nat]
    simp only [plan_within_v, DT.get_some, DT.get_ite, DT.get_leaf, Bool.not_eq_true', decide_eq_false_iff_not]
    split <;> simp_all
  · unfold plan_Check_l4_step
    rw [get_f (dge (Nat.le_refl _))]
    rfl
theorem ref01_Check_l4_v (P : Sq SPlace) (R : Sq SRoad) (h : P.n ≤ 64) : ref01_Check_l4 P R 0 = some (sumO (firstN (gP P) P.n 0)) := by
  rw [ref01_Check_l4_eq, ← sumO_eq]
  refine loop_first (step := fun v => ref01_Check_l4_step P R v) (gP P) (fun i hi => ?_) ?_ P.n 0 (Nat.zero_add _)
  · unfold ref01_Check_l4_step gP
    rw [get_t (dlt hi), get_t (dix hi), wr_next (by omega), toNat_nat]
    simp only [DT.get_ite, DT.get_leaf, decide_eq_true_eq]
    split
    · rw [if_neg (by omega)]
    · split
      · rw [if_neg (by omega)]
      · rw [if_pos (by omega)]
  · unfold ref01_Check_l4_step
    rw [get_f (dge (Nat.le_refl _))]
    rfl
theorem plan_Check_l10_v (P : Sq SPlace) (R : Sq SRoad) (h : P.n ≤ 64) (h2 : R.n ≤ 128) : plan_Check_l10 R P 0 = some (sumO (firstN (gR P.n R) R.n 0)) := by
  rw [plan_Check_l10_eq, ← sumO_eq]
  refine loop_first (step := fun v => plan_Check_l10_step R P v) (gR P.n R) (fun i hi => ?_) ?_ R.n 0 (Nat.zero_add _)
  · unfold plan_Check_l10_step gR
    rw [get_t (dlt hi), get_t (dix hi), wr_next (by omega), toNat_nat, plan_checkRoad_v _ _ (by omega) (by omega)]
    simp only [DT.get_some, DT.get_ite, DT.get_leaf, bne_iff_ne]
    by_cases hq : roadE (R.f i) P.n = 0
    · rw [if_neg (by simp [hq]), if_pos hq]
    · rw [if_pos hq, if_neg hq]
  · unfold plan_Check_l10_step
    rw [get_f (dge (Nat.le_refl _))]
    rfl
theorem ref01_Check_l10_v (P : Sq SPlace) (R : Sq SRoad) (_ : P.n ≤ 64) (h2 : R.n ≤ 128) : ref01_Check_l10 P R 0 = some (sumO (firstN (gR P.n R) R.n 0)) := by
  rw [ref01_Check_l10_eq, ← sumO_eq]
  refine loop_first (step := fun v => ref01_Check_l10_step P R v) (gR P.n R) (fun i hi => ?_) ?_ R.n 0 (Nat.zero_add _)
  · unfold ref01_Check_l10_step gR
    rw [get_t (dlt hi), get_t (dix hi), wr_next (by omega), toNat_nat]
    simp only [ref01_Span_v, DT.get_some, DT.get_ite, DT.get_leaf, decide_eq_true_eq, Bool.not_eq_true', decide_eq_false_iff_not, beq_iff_eq]
    generalize R.f i = r
    unfold roadE
    by_cases a1 : r.From < 0
    · rw [if_pos a1, if_pos (show ¬ (0 ≤ r.From ∧ r.From ≤ (P.n : Int) - 1) by omega)]; rfl
    rw [if_neg a1]
    by_cases a2 : r.From ≥ (P.n : Int)
    · rw [if_pos a2, if_pos (show ¬ (0 ≤ r.From ∧ r.From ≤ (P.n : Int) - 1) by omega)]; rfl
    rw [if_neg a2, if_neg (show ¬ ¬ (0 ≤ r.From ∧ r.From ≤ (P.n : Int) - 1) by omega)]
    by_cases a3 : r.To < 0
    · rw [if_pos a3, if_pos (show ¬ (0 ≤ r.To ∧ r.To ≤ (P.n : Int) - 1) by omega)]; rfl
    rw [if_neg a3]
    by_cases a4 : r.To ≥ (P.n : Int)
    · rw [if_pos a4, if_pos (show ¬ (0 ≤ r.To ∧ r.To ≤ (P.n : Int) - 1) by omega)]; rfl
    rw [if_neg a4, if_neg (show ¬ ¬ (0 ≤ r.To ∧ r.To ≤ (P.n : Int) - 1) by omega)]
    by_cases a5 : r.From = r.To
    · rw [if_pos a5, if_pos a5]; rfl
    rw [if_neg a5, if_neg a5]
    by_cases a6 : r.Length < 1
    · rw [if_pos a6, if_pos (show ¬ (1 ≤ r.Length ∧ r.Length ≤ 100000) by omega)]; rfl
    rw [if_neg a6]
    by_cases a7 : r.Length > 100000
    · rw [if_pos a7, if_pos (show ¬ (1 ≤ r.Length ∧ r.Length ≤ 100000) by omega)]; rfl
    rw [if_neg a7, if_neg (show ¬ ¬ (1 ≤ r.Length ∧ r.Length ≤ 100000) by omega)]
    by_cases a8 : r.Area < 1
    · rw [if_pos a8, if_pos (show ¬ (1 ≤ r.Area ∧ r.Area ≤ 1000) by omega)]; rfl
    rw [if_neg a8]
    by_cases a9 : r.Area > 1000
    · rw [if_pos a9, if_pos (show ¬ (1 ≤ r.Area ∧ r.Area ≤ 1000) by omega)]; rfl
    rw [if_neg a9, if_neg (show ¬ ¬ (1 ≤ r.Area ∧ r.Area ≤ 1000) by omega)]
    by_cases b1 : 1 ≤ r.Rest.Low ∧ r.Rest.Low ≤ r.Rest.High ∧ r.Rest.High ≤ 262144
    · rw [if_neg (not_not_intro b1), if_neg (not_not_intro b1)]
      by_cases b2 : -2199023255552 ≤ r.Lift.Low ∧ r.Lift.Low ≤ r.Lift.High ∧ r.Lift.High ≤ 2199023255552
      · rw [if_neg (not_not_intro b2), if_neg (not_not_intro b2)]; rfl
      · rw [if_pos b2, if_pos b2]; rfl
    · rw [if_pos b1, if_pos b1]; rfl
  · unfold ref01_Check_l10_step
    rw [get_f (dge (Nat.le_refl _))]
    rfl
/-- The first error of a mine. -/
def mineE (m : SMine) : Int :=
  if m.Places.n > 64 then 2 else if m.Roads.n > 128 then 2 else match firstN (gP m.Places) m.Places.n 0 with
    | some _ => 1
    | none => match firstN (gR m.Places.n m.Roads) m.Roads.n 0 with
      | some e => e
      | none => 0
theorem plan_Check_v (m : SMine) : plan_Check m = some (mineE m) := by
  rw [plan_Check_eq]; unfold plan_Check_t mineE
  by_cases h1 : m.Places.n > 64
  · rw [get_t (decide_eq_true (by omega)), if_pos h1]; rfl
  rw [get_f (decide_eq_false (by omega)), if_neg h1]
  by_cases h2 : m.Roads.n > 128
  · rw [get_t (decide_eq_true (by omega)), if_pos h2]; rfl
  rw [get_f (decide_eq_false (by omega)), if_neg h2, get_sum (plan_Check_l4_v _ _ (by omega))]
  cases firstN (gP m.Places) m.Places.n 0 with
  | some _ => rfl
  | none =>
    show DT.get (DT.sum _ _ _) = _
    rw [get_sum (plan_Check_l10_v _ _ (by omega) (by omega))]
    cases firstN (gR m.Places.n m.Roads) m.Roads.n 0 <;> rfl
theorem ref01_Check_v (m : SMine) : ref01_Check m = some (mineE m) := by
  rw [ref01_Check_eq]; unfold ref01_Check_t mineE
  by_cases h1 : m.Places.n > 64
  · rw [get_t (decide_eq_true (by omega)), if_pos h1]; rfl
  rw [get_f (decide_eq_false (by omega)), if_neg h1]
  by_cases h2 : m.Roads.n > 128
  · rw [get_t (decide_eq_true (by omega)), if_pos h2]; rfl
  rw [get_f (decide_eq_false (by omega)), if_neg h2, get_sum (ref01_Check_l4_v _ _ (by omega))]
  cases firstN (gP m.Places) m.Places.n 0 with
  | some _ => rfl
  | none =>
    show DT.get (DT.sum _ _ _) = _
    rw [get_sum (ref01_Check_l10_v _ _ (by omega) (by omega))]
    cases firstN (gR m.Places.n m.Roads) m.Roads.n 0 <;> rfl
/-! ### Fans -/
def gC (c : Sq SPoint) (i : Nat) : Option Int :=
  if ¬ (-1048576 ≤ (c.f i).Flow ∧ (c.f i).Flow ≤ 1048576) then some 1 else if ¬ (0 ≤ (c.f i).Pressure ∧ (c.f i).Pressure ≤ 2199023255552) then some 1
  else if 0 < i ∧ ¬ ((c.f (i - 1)).Flow < (c.f i).Flow ∧ (c.f i).Pressure ≤ (c.f (i - 1)).Pressure) then some 14 else none
/-- The first error of a fan. -/
def fanE (f : SFan) : Int := if f.Road < 0 then 4 else if f.Curve.n = 0 then 2 else if f.Curve.n > 8 then 2 else match firstN (gC f.Curve) f.Curve.n 0 with
  | some e => e
  | none => 0
theorem prev_nat {i : Nat} (h0 : 0 < i) (h : i ≤ 1000000) : wr ((i : Int) - 1) = ((i - 1 : Nat) : Int) := by rw [wr_ok (by omega) (by omega)]; omega
theorem fan_Check_l6_v (c : Sq SPoint) (a : Int) (b d : Bool) (h : c.n ≤ 8) : fan_Check_l6 c a b d 0 = some (sumO (firstN (gC c) c.n 0)) := by
  rw [fan_Check_l6_eq, ← sumO_eq]
  refine loop_first (step := fun v => fan_Check_l6_step c a b d v) (gC c) (fun i hi => ?_) ?_ c.n 0 (Nat.zero_add _)
  · unfold fan_Check_l6_step gC
    rw [get_t (dlt hi), get_t (dix hi), wr_next (by omega), toNat_nat]
    rw [get_bind (fan_within_v _ _ _)]
    by_cases a1 : -1048576 ≤ (c.f i).Flow ∧ (c.f i).Flow ≤ 1048576
    · rw [get_f (by simp [a1]), if_neg (not_not_intro a1), get_bind (fan_within_v _ _ _)]
      by_cases a2 : 0 ≤ (c.f i).Pressure ∧ (c.f i).Pressure ≤ 2199023255552
      · rw [get_f (by simp [a2]), if_neg (not_not_intro a2)]
        by_cases a3 : 0 < i
        · rw [get_t (decide_eq_true (by omega)), prev_nat a3 (by omega), get_t (dix (by omega)), toNat_nat, get_bind (fan_falls_v _ _)]
          by_cases a4 : (c.f (i - 1)).Flow < (c.f i).Flow ∧ (c.f i).Pressure ≤ (c.f (i - 1)).Pressure
          · rw [get_f (by simp [a4]), if_neg (fun h => h.2 a4)]; rfl
          · rw [get_t (by simp only [decide_eq_false a4, Bool.not_false]), if_pos ⟨a3, a4⟩]; rfl
        · rw [get_f (decide_eq_false (by omega)), if_neg (fun h => a3 h.1)]; rfl
      · rw [get_t (by simp only [decide_eq_false a2, Bool.not_false]), if_pos a2]; rfl
    · rw [get_t (by simp only [decide_eq_false a1, Bool.not_false]), if_pos a1]; rfl
  · unfold fan_Check_l6_step
    rw [get_f (dge (Nat.le_refl _))]
    rfl
theorem ref07_Check_l6_v (c : Sq SPoint) (a : Int) (b d : Bool) (h : c.n ≤ 8) : ref07_Check_l6 a b d c 0 = some (sumO (firstN (gC c) c.n 0)) := by
  rw [ref07_Check_l6_eq, ← sumO_eq]
  refine loop_first (step := fun v => ref07_Check_l6_step a b d c v) (gC c) (fun i hi => ?_) ?_ c.n 0 (Nat.zero_add _)
  · unfold ref07_Check_l6_step gC
    rw [get_t (dlt hi), get_t (dix hi), wr_next (by omega), toNat_nat]
    by_cases a1 : (c.f i).Flow < -1048576
    · rw [get_t (decide_eq_true a1), if_pos (by omega)]; rfl
    rw [get_f (decide_eq_false a1)]
    by_cases a2 : (c.f i).Flow > 1048576
    · rw [get_t (decide_eq_true a2), if_pos (by omega)]; rfl
    rw [get_f (decide_eq_false a2), if_neg (by omega)]
    by_cases a3 : (c.f i).Pressure < 0
    · rw [get_t (decide_eq_true a3), if_pos (by omega)]; rfl
    rw [get_f (decide_eq_false a3)]
    by_cases a4 : (c.f i).Pressure > 2199023255552
    · rw [get_t (decide_eq_true a4), if_pos (by omega)]; rfl
    rw [get_f (decide_eq_false a4), if_neg (by omega)]
    by_cases a5 : 0 < i
    · rw [get_t (decide_eq_true (by omega)), prev_nat a5 (by omega), get_t (dix (by omega)), toNat_nat]
      by_cases a6 : (c.f i).Flow ≤ (c.f (i - 1)).Flow
      · rw [get_t (decide_eq_true a6), if_pos ⟨a5, by omega⟩]; rfl
      rw [get_f (decide_eq_false a6), get_t (dix (by omega))]
      by_cases a7 : (c.f i).Pressure > (c.f (i - 1)).Pressure
      · rw [get_t (decide_eq_true a7), if_pos ⟨a5, by omega⟩]; rfl
      · rw [get_f (decide_eq_false a7), if_neg (by omega)]; rfl
    · rw [get_f (decide_eq_false (by omega)), if_neg (by omega)]; rfl
  · unfold ref07_Check_l6_step
    rw [get_f (dge (Nat.le_refl _))]
    rfl
theorem fan_Check_v (f : SFan) : fan_Check f = some (fanE f) := by
  rw [fan_Check_eq]; unfold fan_Check_t fanE
  by_cases h0 : f.Road < 0
  · rw [get_t (decide_eq_true h0), if_pos h0]; rfl
  rw [get_f (decide_eq_false h0), if_neg h0]
  by_cases h1 : f.Curve.n = 0
  · rw [get_t (by simp [h1]), if_pos h1]; rfl
  rw [get_f (by simp [h1]), if_neg h1]
  by_cases h2 : f.Curve.n > 8
  · rw [get_t (decide_eq_true (by omega)), if_pos h2]; rfl
  rw [get_f (decide_eq_false (by omega)), if_neg h2, get_sum (fan_Check_l6_v _ _ _ _ (by omega))]
  cases firstN (gC f.Curve) f.Curve.n 0 <;> rfl
theorem ref07_Check_v (f : SFan) : ref07_Check f = some (fanE f) := by
  rw [ref07_Check_eq]; unfold ref07_Check_t fanE
  by_cases h0 : f.Road < 0
  · rw [get_t (decide_eq_true h0), if_pos h0]; rfl
  rw [get_f (decide_eq_false h0), if_neg h0]
  by_cases h1 : f.Curve.n = 0
  · rw [get_t (decide_eq_true (by omega)), if_pos h1]; rfl
  rw [get_f (decide_eq_false (by omega)), if_neg h1]
  by_cases h2 : f.Curve.n > 8
  · rw [get_t (decide_eq_true (by omega)), if_pos h2]; rfl
  rw [get_f (decide_eq_false (by omega)), if_neg h2, get_sum (ref07_Check_l6_v _ _ _ _ (by omega))]
  cases firstN (gC f.Curve) f.Curve.n 0 <;> rfl

/-! ### Doors -/
def gO (r : Sq Int) (i : Nat) : Option Unit := if 0 ≤ r.f i ∧ r.f i ≤ 262144 then none else some ()
def gD (r : Sq Int) (i : Nat) : Option Unit := if 0 < i ∧ r.f i ≥ r.f (i - 1) then some () else none
def pairedB (l : Sq SDoor) (i : Nat) : Prop := (l.f i).Other = -1 ∨ ((l.f i).Other ≠ i ∧ 0 ≤ (l.f i).Other ∧ (l.f i).Other < l.n ∧ (l.f (l.f i).Other.toNat).Other = i)
open Classical in
/-- The first error of a door. -/
noncomputable def doorE (l : Sq SDoor) (i : Nat) : Int := if (l.f i).Road < 0 then 4 else if (l.f i).Rests.n < 2 then 2 else if (l.f i).Rests.n > 6 then 2
  else match firstN (gO (l.f i).Rests) (l.f i).Rests.n 0 with
    | some _ => 1
    | none => match firstN (gD (l.f i).Rests) (l.f i).Rests.n 0 with
      | some _ => 15
      | none => if pairedB l i then 0 else 15
def gIx (r : Sq Int) (i : Nat) : Option Int := if 0 ≤ r.f i ∧ r.f i ≤ 262144 then none else some (i : Int)
theorem gIx_gO (r : Sq Int) : ∀ k i, (firstN (gIx r) k i).isSome = (firstN (gO r) k i).isSome ∧ ∀ z, firstN (gIx r) k i = some z → 0 ≤ z := by
  intro k
  induction k with
  | zero => intro i; exact ⟨rfl, fun z h => by cases h⟩
  | succ k ih =>
    intro i
    unfold firstN gIx gO
    by_cases h : 0 ≤ r.f i ∧ r.f i ≤ 262144
    · rw [if_pos h, if_pos h]; exact ih (i + 1)
    · rw [if_neg h, if_neg h]; exact ⟨rfl, fun z hz => by injection hz with hz; omega⟩
theorem slices_IndexFunc_l2_v (r : Sq Int) (h : r.n ≤ 6) : slices_IndexFunc_l2 r 0 = some (sumO (firstN (gIx r) r.n 0)) := by
  rw [slices_IndexFunc_l2_eq, ← sumO_eq]
  refine loop_first (step := fun v => slices_IndexFunc_l2_step r v) (gIx r) (fun i hi => ?_) ?_ r.n 0 (Nat.zero_add _)
  · unfold slices_IndexFunc_l2_step gIx
    rw [get_t (dlt hi), get_t (dix hi), wr_next (by omega), toNat_nat]
    rw [get_bind (door_outOfRange_v _)]
    by_cases a1 : 0 ≤ r.f i ∧ r.f i ≤ 262144
    · rw [get_f (decide_eq_false (not_not_intro a1)), if_pos a1]; rfl
    · rw [get_t (decide_eq_true a1), if_neg a1]; rfl
  · unfold slices_IndexFunc_l2_step
    rw [get_f (dge (Nat.le_refl _))]
    rfl
theorem slices_ContainsFunc_v (r : Sq Int) (h : r.n ≤ 6) : slices_ContainsFunc r = some (firstN (gO r) r.n 0).isSome := by
  rw [slices_ContainsFunc_eq]; unfold slices_ContainsFunc_t
  have e : slices_IndexFunc r = some (match firstN (gIx r) r.n 0 with | some z => z | none => -1) := by
    rw [slices_IndexFunc_eq]; unfold slices_IndexFunc_t
    rw [get_sum (slices_IndexFunc_l2_v r h)]
    cases firstN (gIx r) r.n 0 <;> rfl
  rw [get_bind e, DT.get_leaf]
  obtain ⟨h1, h2⟩ := gIx_gO r r.n 0
  rw [← h1]
  cases hf : firstN (gIx r) r.n 0 with
  | none => rfl
  | some z => exact congrArg some (decide_eq_true (h2 z hf))
theorem door_descend_v (r : Sq Int) (h : r.n ≤ 6) : door_descend r = some (firstN (gD r) r.n 0).isNone := by
  rw [door_descend_eq]; unfold door_descend_t
  have e : door_descend_l2 r 0 = some (sumO (firstN (gD r) r.n 0)) := by
    rw [door_descend_l2_eq, ← sumO_eq]
    refine loop_first (step := fun v => door_descend_l2_step r v) (gD r) (fun i hi => ?_) ?_ r.n 0 (Nat.zero_add _)
    · unfold door_descend_l2_step gD
      rw [get_t (dlt hi), wr_next (by omega), toNat_nat]
      by_cases a3 : 0 < i
      · rw [get_t (decide_eq_true (by omega)), prev_nat a3 (by omega), get_t (dix hi), get_t (dix (by omega)), toNat_nat]
        by_cases a4 : r.f i ≥ r.f (i - 1)
        · rw [get_t (decide_eq_true a4), if_pos ⟨a3, a4⟩]; rfl
        · rw [get_f (decide_eq_false a4), if_neg (fun h => a4 h.2)]; rfl
      · rw [get_f (decide_eq_false (by omega)), if_neg (fun h => a3 h.1)]; rfl
    · unfold door_descend_l2_step
      rw [get_f (dge (Nat.le_refl _))]
      rfl
  rw [get_sum e]
  cases firstN (gD r) r.n 0 <;> rfl
theorem ref08_l12_v (l : Sq SDoor) (a b : Int) (r : Sq Int) (i : Int) (h : r.n ≤ 6) : ref08_Check_l12 l a b r i 0 = some (sumO (firstN (gO r) r.n 0)) := by
  rw [ref08_Check_l12_eq, ← sumO_eq]
  refine loop_first (step := fun v => ref08_Check_l12_step l a b r i v) (gO r) (fun i hi => ?_) ?_ r.n 0 (Nat.zero_add _)
  · unfold ref08_Check_l12_step gO
    rw [get_t (dlt hi), get_t (dix hi), wr_next (by omega), toNat_nat]
    by_cases a1 : r.f i < 0
    · rw [get_t (decide_eq_true a1), if_neg (by omega)]; rfl
    rw [get_f (decide_eq_false a1), get_t (dix hi)]
    by_cases a2 : r.f i > 262144
    · rw [get_t (decide_eq_true a2), if_neg (by omega)]; rfl
    · rw [get_f (decide_eq_false a2), if_pos (by omega)]; rfl
  · unfold ref08_Check_l12_step
    rw [get_f (dge (Nat.le_refl _))]
    rfl
theorem ref08_l17_v (l : Sq SDoor) (a b : Int) (r : Sq Int) (i : Int) (h : r.n ≤ 6) (h2 : 2 ≤ r.n) : ref08_Check_l17 l a b r i 1 = some (sumO (firstN (gD r) r.n 0)) := by
  rw [ref08_Check_l17_eq]
  have e : firstN (gD r) r.n 0 = firstN (gD r) (r.n - 1) 1 := by
    obtain ⟨m, hm⟩ : ∃ m, r.n = m + 1 := ⟨r.n - 1, by omega⟩
    rw [hm]
    show (match gD r 0 with | some b => some b | none => firstN (gD r) m 1) = _
    unfold gD
    rw [if_neg (fun h => absurd h.1 (by omega))]
    rfl
  rw [e, ← sumO_eq]
  refine loop_from (n := r.n) (step := fun v => ref08_Check_l17_step l a b r i v) 1 (gD r) (fun i h0 hi => ?_) ?_ (r.n - 1) 1 (Nat.le_refl _) (by omega)
  · unfold ref08_Check_l17_step gD
    rw [get_t (dlt hi), get_t (dix hi), wr_next (by omega), toNat_nat, prev_nat h0 (by omega), get_t (dix (by omega)), toNat_nat]
    by_cases a4 : r.f i ≥ r.f (i - 1)
    · rw [get_t (decide_eq_true a4), if_pos ⟨h0, a4⟩]; rfl
    · rw [get_f (decide_eq_false a4), if_neg (fun h => a4 h.2)]; rfl
  · unfold ref08_Check_l17_step
    rw [get_f (dge (Nat.le_refl _))]
    rfl
open Classical in
theorem door_paired_v (l : Sq SDoor) (i : Nat) (hi : i < l.n) : door_paired l i = some (decide (pairedB l i)) := by
  rw [door_paired_eq]; unfold door_paired_t
  rw [get_t (dix hi), toNat_nat]
  by_cases a1 : (l.f i).Other = -1
  · rw [get_t (by simp [a1]), decide_eq_true (show pairedB l i from .inl a1)]; rfl
  rw [get_f (by simp [a1])]
  by_cases a2 : (l.f i).Other = i
  · rw [get_f (by simp [a2]), decide_eq_false (show ¬ pairedB l i from fun h => h.elim a1 fun h => h.1 a2)]; rfl
  rw [get_t (by simp [a2]), get_bind (door_has_v _ _)]
  by_cases a3 : 0 ≤ (l.f i).Other ∧ (l.f i).Other < (l.n : Int)
  · rw [get_t (decide_eq_true a3), get_t (decide_eq_true a3), DT.get_leaf]
    by_cases a4 : (l.f (l.f i).Other.toNat).Other = i
    · rw [decide_eq_true (show pairedB l i from .inr ⟨a2, a3.1, a3.2, a4⟩)]; simp [a4]
    · rw [decide_eq_false (show ¬ pairedB l i from fun h => h.elim a1 fun h => a4 h.2.2.2)]; simp [a4]
  · rw [get_f (decide_eq_false a3), decide_eq_false (show ¬ pairedB l i from fun h => h.elim a1 fun h => a3 ⟨h.2.1, h.2.2.1⟩)]; rfl
theorem door_checkDoor_v (l : Sq SDoor) (i : Nat) (hi : i < l.n) : door_checkDoor l i = some (doorE l i) := by
  rw [door_checkDoor_eq]; unfold door_checkDoor_t doorE
  rw [get_t (dix hi), toNat_nat]
  by_cases a1 : (l.f i).Road < 0
  · rw [get_t (decide_eq_true a1), if_pos a1]; rfl
  rw [get_f (decide_eq_false a1), if_neg a1]
  by_cases a2 : (l.f i).Rests.n < 2
  · rw [get_t (decide_eq_true (by omega)), if_pos a2]; rfl
  rw [get_f (decide_eq_false (by omega)), if_neg a2]
  by_cases a3 : (l.f i).Rests.n > 6
  · rw [get_t (decide_eq_true (by omega)), if_pos a3]; rfl
  rw [get_f (decide_eq_false (by omega)), if_neg a3, get_bind (slices_ContainsFunc_v _ (by omega))]
  cases firstN (gO (l.f i).Rests) (l.f i).Rests.n 0 with
  | some _ => rfl
  | none =>
    rw [get_f (b := (none : Option Unit).isSome) rfl, get_bind (door_descend_v _ (by omega))]
    cases firstN (gD (l.f i).Rests) (l.f i).Rests.n 0 with
    | some _ => rfl
    | none =>
      rw [get_f (b := !(none : Option Unit).isNone) rfl, get_bind (door_paired_v l i hi)]
      by_cases a4 : pairedB l i
      · rw [get_f (by simp [a4])]; simp [a4]
      · rw [get_t (by simp [a4])]; simp [a4]
noncomputable def gDo (l : Sq SDoor) (i : Nat) : Option Int := if doorE l i = 0 then none else some (doorE l i)
/-- The first error of doors. -/
noncomputable def doorsE (l : Sq SDoor) : Int := if l.n > 16 then 2 else match firstN (gDo l) l.n 0 with
  | some e => e
  | none => 0
theorem door_Check_v (l : Sq SDoor) : door_Check l = some (doorsE l) := by
  rw [door_Check_eq]; unfold door_Check_t doorsE
  by_cases h0 : l.n > 16
  · rw [get_t (decide_eq_true (by omega)), if_pos h0]; rfl
  rw [get_f (decide_eq_false (by omega)), if_neg h0]
  have e : door_Check_l4 l 0 = some (sumO (firstN (gDo l) l.n 0)) := by
    rw [door_Check_l4_eq, ← sumO_eq]
    refine loop_first (step := fun v => door_Check_l4_step l v) (gDo l) (fun i hi => ?_) ?_ l.n 0 (Nat.zero_add _)
    · unfold door_Check_l4_step gDo
      rw [get_t (dlt hi), wr_next (by omega), get_bind (door_checkDoor_v l i hi)]
      by_cases hq : doorE l i = 0
      · rw [get_f (by simp [hq]), if_pos hq]; rfl
      · rw [get_t (by simp [hq]), if_neg hq]; rfl
    · unfold door_Check_l4_step
      rw [get_f (dge (Nat.le_refl _))]
      rfl
  rw [get_sum e]
  cases firstN (gDo l) l.n 0 <;> rfl
open Classical in
theorem ref08_Check_v (l : Sq SDoor) : ref08_Check l = some (doorsE l) := by
  rw [ref08_Check_eq]; unfold ref08_Check_t doorsE
  by_cases h0 : l.n > 16
  · rw [get_t (decide_eq_true (by omega)), if_pos h0]; rfl
  rw [get_f (decide_eq_false (by omega)), if_neg h0]
  have e : ref08_Check_l4 l 0 = some (sumO (firstN (gDo l) l.n 0)) := by
    rw [ref08_Check_l4_eq, ← sumO_eq]
    refine loop_first (step := fun v => ref08_Check_l4_step l v) (gDo l) (fun i hi => ?_) ?_ l.n 0 (Nat.zero_add _)
    · unfold ref08_Check_l4_step gDo doorE
      rw [get_t (dlt hi), get_t (dix hi), wr_next (by omega), toNat_nat]
      by_cases a1 : (l.f i).Road < 0
      · rw [get_t (decide_eq_true a1), if_pos a1]; rfl
      rw [get_f (decide_eq_false a1), if_neg a1]
      by_cases a2 : (l.f i).Rests.n < 2
      · rw [get_t (decide_eq_true (by omega)), if_pos a2]; rfl
      rw [get_f (decide_eq_false (by omega)), if_neg a2]
      by_cases a3 : (l.f i).Rests.n > 6
      · rw [get_t (decide_eq_true (by omega)), if_pos a3]; rfl
      rw [get_f (decide_eq_false (by omega)), if_neg a3, get_sum (ref08_l12_v l _ _ _ _ (by omega))]
      cases firstN (gO (l.f i).Rests) (l.f i).Rests.n 0 with
      | some _ => rfl
      | none =>
        show DT.get (DT.sum _ _ _) = _
        rw [get_sum (ref08_l17_v l _ _ _ _ (by omega) (by omega))]
        cases firstN (gD (l.f i).Rests) (l.f i).Rests.n 0 with
        | some _ => rfl
        | none =>
          show DT.get (DT.ite _ _ _) = _
          dsimp only
          by_cases b1 : (l.f i).Other = -1
          · rw [get_f (by simp [b1]), if_pos (show (if pairedB l i then (0 : Int) else 15) = 0 by rw [if_pos (show pairedB l i from .inl b1)])]; rfl
          rw [get_t (by simp [b1])]
          by_cases b2 : (l.f i).Other < 0
          · rw [get_t (decide_eq_true b2), if_neg (show ¬ pairedB l i from fun h => h.elim b1 fun h => by omega)]; rfl
          rw [get_f (decide_eq_false b2)]
          by_cases b3 : (l.f i).Other ≥ (l.n : Int)
          · rw [get_t (decide_eq_true b3), if_neg (show ¬ pairedB l i from fun h => h.elim b1 fun h => by omega)]; rfl
          rw [get_f (decide_eq_false b3)]
          by_cases b4 : (l.f i).Other = i
          · rw [get_t (by simp [b4]), if_neg (show ¬ pairedB l i from fun h => h.elim b1 fun h => h.1 b4)]; rfl
          rw [get_f (by simp [b4]), get_t (decide_eq_true ⟨by omega, by omega⟩)]
          by_cases b5 : (l.f (l.f i).Other.toNat).Other = i
          · rw [get_f (by simp [b5]), if_pos (show pairedB l i from .inr ⟨b4, by omega, by omega, b5⟩)]; rfl
          · rw [get_t (by simp [b5]), if_neg (show ¬ pairedB l i from fun h => h.elim b1 fun h => b5 h.2.2.2)]; rfl
    · unfold ref08_Check_l4_step
      rw [get_f (dge (Nat.le_refl _))]
      rfl
  rw [get_sum e]
  cases firstN (gDo l) l.n 0 <;> rfl
/-! ### Airs -/
def gF (F : Sq SFan) (nr : Nat) (i : Nat) : Option Int := if fanE (F.f i) ≠ 0 then some (fanE (F.f i)) else if 0 ≤ (F.f i).Road ∧ (F.f i).Road ≤ (nr : Int) - 1 then none else some 4
def fansE (F : Sq SFan) (nr : Nat) : Int := if F.n > 8 then 2 else match firstN (gF F nr) F.n 0 with
  | some e => e
  | none => 0
def gDr (D : Sq SDoor) (nr : Nat) (i : Nat) : Option Unit := if 0 ≤ (D.f i).Road ∧ (D.f i).Road ≤ (nr : Int) - 1 then none else some ()
noncomputable def doorsE2 (D : Sq SDoor) (nr : Nat) : Int := if doorsE D ≠ 0 then doorsE D else match firstN (gDr D nr) D.n 0 with
  | some _ => 4
  | none => 0
/-- The first error of an air. -/
noncomputable def airE (a : SAir) : Int := if mineE a.Mine ≠ 0 then mineE a.Mine else if fansE a.Fans a.Mine.Roads.n ≠ 0 then fansE a.Fans a.Mine.Roads.n else doorsE2 a.Doors a.Mine.Roads.n
theorem firstN_err {g : Nat → Option Int} (hg : ∀ i z, g i = some z → z ≠ 0) {n i : Nat} (h : (match firstN g n i with | some e => e | none => 0) = 0) : firstN g n i = none := by
  cases hf : firstN g n i with
  | none => rfl
  | some z =>
    rw [hf] at h
    obtain ⟨j, _, _, h3, _⟩ := firstN_some hf
    exact absurd h (hg j z h3)
/-- What a mine without an error is. -/
structure MineOK (m : SMine) : Prop where
  np : m.Places.n ≤ 64
  nr : m.Roads.n ≤ 128
  h : ∀ i, i < m.Places.n → -10000 ≤ (m.Places.f i).Height ∧ (m.Places.f i).Height ≤ 10000
  r : ∀ i, i < m.Roads.n → roadE (m.Roads.f i) m.Places.n = 0
theorem gR_ne {np : Nat} {R : Sq SRoad} : ∀ i z, gR np R i = some z → z ≠ 0 := by
  intro i z h
  unfold gR at h
  split at h
  · cases h
  · rename_i hq; injection h with h; subst h; exact hq
theorem mineE_ok (m : SMine) : mineE m = 0 ↔ MineOK m := by
  unfold mineE
  by_cases h1 : m.Places.n > 64
  · rw [if_pos h1]; exact ⟨fun h => by omega, fun h => absurd h.np (by omega)⟩
  rw [if_neg h1]
  by_cases h2 : m.Roads.n > 128
  · rw [if_pos h2]; exact ⟨fun h => by omega, fun h => absurd h.nr (by omega)⟩
  rw [if_neg h2]
  cases hp : firstN (gP m.Places) m.Places.n 0 with
  | some u =>
    refine ⟨fun h => (by cases h), fun h => ?_⟩
    obtain ⟨j, _, h4, h5, _⟩ := firstN_some hp
    have := h.h j (by omega)
    unfold gP at h5
    rw [if_pos this] at h5
    cases h5
  | none =>
    constructor
    · intro h
      have hr := firstN_err gR_ne h
      refine ⟨by omega, by omega, fun i hi => ?_, fun i hi => ?_⟩
      · have := firstN_none hp i (by omega) (by omega)
        unfold gP at this
        split at this
        · assumption
        · cases this
      · have := firstN_none hr i (by omega) (by omega)
        unfold gR at this
        split at this
        · assumption
        · cases this
    · intro h
      have : firstN (gR m.Places.n m.Roads) m.Roads.n 0 = none := firstN_all fun j _ hj => by
        unfold gR
        rw [if_pos (h.r j (by omega))]
      rw [this]
theorem branch_hasRoad_v (a : SAir) (k : Int) (h : a.Mine.Roads.n ≤ 128) : branch_hasRoad a k = some (decide (0 ≤ k ∧ k ≤ (a.Mine.Roads.n : Int) - 1)) := by
  rw [branch_hasRoad_eq]; unfold branch_hasRoad_t
  rw [wr_ok (by omega) (by omega), get_bind (branch_within_v _ _ _)]
  rfl
theorem branch_checkFans_v (a : SAir) (h : a.Mine.Roads.n ≤ 128) : branch_checkFans a = some (fansE a.Fans a.Mine.Roads.n) := by
  rw [branch_checkFans_eq]; unfold branch_checkFans_t fansE
  by_cases h0 : a.Fans.n > 8
  · rw [get_t (decide_eq_true (by omega)), if_pos h0]; rfl
  rw [get_f (decide_eq_false (by omega)), if_neg h0]
  have e : branch_checkFans_l4 a.Fans a.Mine.Places a.Mine.Roads a.Doors 0 = some (sumO (firstN (gF a.Fans a.Mine.Roads.n) a.Fans.n 0)) := by
    rw [branch_checkFans_l4_eq, ← sumO_eq]
    refine loop_first (step := fun v => branch_checkFans_l4_step a.Fans a.Mine.Places a.Mine.Roads a.Doors v) (gF a.Fans a.Mine.Roads.n) (fun i hi => ?_) ?_ a.Fans.n 0 (Nat.zero_add _)
    · unfold branch_checkFans_l4_step gF
      rw [get_t (dlt hi), get_t (dix hi), wr_next (by omega), toNat_nat, get_bind (fan_Check_v _)]
      by_cases a1 : fanE (a.Fans.f i) = 0
      · rw [get_f (by simp [a1]), if_neg (not_not_intro a1), get_bind (branch_hasRoad_v _ _ h)]
        by_cases a2 : 0 ≤ (a.Fans.f i).Road ∧ (a.Fans.f i).Road ≤ (a.Mine.Roads.n : Int) - 1
        · rw [get_f (by simp only [decide_eq_true a2, Bool.not_true]), if_pos a2]; rfl
        · rw [get_t (by simp only [decide_eq_false a2, Bool.not_false]), if_neg a2]; rfl
      · rw [get_t (by simp [a1]), if_pos a1]; rfl
    · unfold branch_checkFans_l4_step
      rw [get_f (dge (Nat.le_refl _))]
      rfl
  rw [get_sum e]
  cases firstN (gF a.Fans a.Mine.Roads.n) a.Fans.n 0 <;> rfl
theorem branch_checkDoors_v (a : SAir) (h : a.Mine.Roads.n ≤ 128) : branch_checkDoors a = some (doorsE2 a.Doors a.Mine.Roads.n) := by
  rw [branch_checkDoors_eq]; unfold branch_checkDoors_t doorsE2
  rw [get_bind (door_Check_v _)]
  by_cases h0 : doorsE a.Doors = 0
  · rw [get_f (by simp [h0]), if_neg (not_not_intro h0)]
    have hn : a.Doors.n ≤ 16 := by
      unfold doorsE at h0
      split at h0
      · cases h0
      · omega
    have e : branch_checkDoors_l5 a.Doors a.Mine.Places a.Mine.Roads a.Fans 0 = some (sumO (firstN (gDr a.Doors a.Mine.Roads.n) a.Doors.n 0)) := by
      rw [branch_checkDoors_l5_eq, ← sumO_eq]
      refine loop_first (step := fun v => branch_checkDoors_l5_step a.Doors a.Mine.Places a.Mine.Roads a.Fans v) (gDr a.Doors a.Mine.Roads.n) (fun i hi => ?_) ?_ a.Doors.n 0 (Nat.zero_add _)
      · unfold branch_checkDoors_l5_step gDr
        rw [get_t (dlt hi), get_t (dix hi), wr_next (by omega), toNat_nat, get_bind (branch_hasRoad_v _ _ h)]
        by_cases a2 : 0 ≤ (a.Doors.f i).Road ∧ (a.Doors.f i).Road ≤ (a.Mine.Roads.n : Int) - 1
        · rw [get_f (by simp only [decide_eq_true a2, Bool.not_true]), if_pos a2]; rfl
        · rw [get_t (by simp only [decide_eq_false a2, Bool.not_false]), if_neg a2]; rfl
      · unfold branch_checkDoors_l5_step
        rw [get_f (dge (Nat.le_refl _))]
        rfl
    rw [get_sum e]
    cases firstN (gDr a.Doors a.Mine.Roads.n) a.Doors.n 0 <;> rfl
  · rw [get_t (by simp [h0]), if_pos h0]; rfl
theorem branch_Check_v (a : SAir) : branch_Check a = some (airE a) := by
  rw [branch_Check_eq]; unfold branch_Check_t airE
  rw [get_bind (plan_Check_v _)]
  by_cases h0 : mineE a.Mine = 0
  · have hm := (mineE_ok _).1 h0
    rw [get_f (by simp [h0]), if_neg (not_not_intro h0), get_bind (branch_checkFans_v a hm.nr)]
    by_cases h1 : fansE a.Fans a.Mine.Roads.n = 0
    · rw [get_f (by simp [h1]), if_neg (not_not_intro h1), get_bind (branch_checkDoors_v a hm.nr)]; rfl
    · rw [get_t (by simp [h1]), if_pos h1]; rfl
  · rw [get_t (by simp [h0]), if_pos h0]; rfl
theorem gDo_ne {l : Sq SDoor} : ∀ i z, gDo l i = some z → z ≠ 0 := by
  intro i z h
  unfold gDo at h
  split at h
  · cases h
  · rename_i hq; injection h with h; subst h; exact hq
theorem doorsE_ok {l : Sq SDoor} (h : doorsE l = 0) : l.n ≤ 16 ∧ ∀ i, i < l.n → doorE l i = 0 := by
  unfold doorsE at h
  by_cases h0 : l.n > 16
  · rw [if_pos h0] at h; cases h
  rw [if_neg h0] at h
  refine ⟨by omega, fun i hi => ?_⟩
  have := firstN_none (firstN_err gDo_ne h) i (by omega) (by omega)
  unfold gDo at this
  split at this
  · assumption
  · cases this
theorem doorE_road {l : Sq SDoor} {i : Nat} (h : doorE l i = 0) : 0 ≤ (l.f i).Road := by
  unfold doorE at h
  by_cases h0 : (l.f i).Road < 0
  · rw [if_pos h0] at h; cases h
  · omega
theorem fanE_road {f : SFan} (h : fanE f = 0) : 0 ≤ f.Road := by
  unfold fanE at h
  by_cases h0 : f.Road < 0
  · rw [if_pos h0] at h; cases h
  · omega
theorem ref09_Check_v (a : SAir) : ref09_Check a = some (airE a) := by
  rw [ref09_Check_eq]; unfold ref09_Check_t airE
  rw [get_bind (ref01_Check_v _)]
  by_cases h0 : mineE a.Mine = 0
  · have hm := (mineE_ok _).1 h0
    rw [get_f (by simp [h0]), if_neg (not_not_intro h0)]
    unfold fansE doorsE2
    by_cases hn : a.Fans.n > 8
    · rw [get_t (decide_eq_true (by omega)), if_pos hn]; rfl
    rw [get_f (decide_eq_false (by omega)), if_neg hn]
    have e : ref09_Check_l7 a.Mine.Places a.Mine.Roads a.Fans a.Doors 0 = some (sumO (firstN (gF a.Fans a.Mine.Roads.n) a.Fans.n 0)) := by
      rw [ref09_Check_l7_eq, ← sumO_eq]
      refine loop_first (step := fun v => ref09_Check_l7_step a.Mine.Places a.Mine.Roads a.Fans a.Doors v) (gF a.Fans a.Mine.Roads.n) (fun i hi => ?_) ?_ a.Fans.n 0 (Nat.zero_add _)
      · unfold ref09_Check_l7_step gF
        rw [get_t (dlt hi), get_t (dix hi), wr_next (by omega), toNat_nat, get_bind (ref07_Check_v _)]
        by_cases a1 : fanE (a.Fans.f i) = 0
        · have := fanE_road a1
          rw [get_f (by simp [a1]), if_neg (not_not_intro a1), get_t (dix hi)]
          by_cases a2 : 0 ≤ (a.Fans.f i).Road ∧ (a.Fans.f i).Road ≤ (a.Mine.Roads.n : Int) - 1
          · rw [get_f (decide_eq_false (by omega)), if_pos a2]; rfl
          · rw [get_t (decide_eq_true (by omega)), if_neg a2]; rfl
        · rw [get_t (by simp [a1]), if_pos a1]; rfl
      · unfold ref09_Check_l7_step
        rw [get_f (dge (Nat.le_refl _))]
        rfl
    rw [get_sum e]
    have hne : ∀ i z, gF a.Fans a.Mine.Roads.n i = some z → z ≠ 0 := by
      intro i z h
      unfold gF at h
      split at h
      · rename_i hq; injection h with h; subst h; exact hq
      · split at h
        · cases h
        · injection h with h; omega
    cases hf : firstN (gF a.Fans a.Mine.Roads.n) a.Fans.n 0 with
    | some z =>
      obtain ⟨j, _, _, h3, _⟩ := firstN_some hf
      show DT.get (DT.leaf z) = _
      dsimp only
      rw [if_pos (hne j z h3)]; rfl
    | none =>
      show DT.get (DT.bind _ _) = _
      dsimp only
      rw [if_neg (show ¬ (0 : Int) ≠ 0 from fun h => h rfl), get_bind (ref08_Check_v _)]
      by_cases h2 : doorsE a.Doors = 0
      · obtain ⟨d1, d2⟩ := doorsE_ok h2
        rw [get_f (by simp [h2]), if_neg (not_not_intro h2)]
        have e2 : ref09_Check_l18 a.Mine.Places a.Mine.Roads a.Fans a.Doors 0 = some (sumO (firstN (gDr a.Doors a.Mine.Roads.n) a.Doors.n 0)) := by
          rw [ref09_Check_l18_eq, ← sumO_eq]
          refine loop_first (step := fun v => ref09_Check_l18_step a.Mine.Places a.Mine.Roads a.Fans a.Doors v) (gDr a.Doors a.Mine.Roads.n) (fun i hi => ?_) ?_ a.Doors.n 0 (Nat.zero_add _)
          · unfold ref09_Check_l18_step gDr
            have := doorE_road (d2 i hi)
            rw [get_t (dlt hi), get_t (dix hi), wr_next (by omega), toNat_nat]
            by_cases a2 : 0 ≤ (a.Doors.f i).Road ∧ (a.Doors.f i).Road ≤ (a.Mine.Roads.n : Int) - 1
            · rw [get_f (decide_eq_false (by omega)), if_pos a2]; rfl
            · rw [get_t (decide_eq_true (by omega)), if_neg a2]; rfl
          · unfold ref09_Check_l18_step
            rw [get_f (dge (Nat.le_refl _))]
            rfl
        rw [get_sum e2]
        cases firstN (gDr a.Doors a.Mine.Roads.n) a.Doors.n 0 <;> rfl
      · rw [get_t (by simp [h2]), if_pos h2]; rfl
  · rw [get_t (by simp [h0]), if_pos h0]; rfl
/-! ### Settings -/
def gSf (s : Sq Int) (i : Nat) : Option Unit := if -1 ≤ s.f i ∧ s.f i ≤ 2 then none else some ()
def gSd (s : Sq Int) (D : Sq SDoor) (i : Nat) : Option Unit := if -1 ≤ s.f i ∧ s.f i ≤ ((D.f i).Rests.n : Int) - 1 then none else some ()
open Classical in
/-- Whether an air and a setting are right. -/
noncomputable def rightB (a : SAir) (s : SSetting) : Bool := if airE a = 0 ∧ s.Fans.n = a.Fans.n ∧ s.Doors.n = a.Doors.n ∧ firstN (gSf s.Fans) s.Fans.n 0 = none ∧ firstN (gSd s.Doors a.Doors) s.Doors.n 0 = none then true else false
theorem doorE_rests {l : Sq SDoor} {i : Nat} (h : doorE l i = 0) : 2 ≤ (l.f i).Rests.n ∧ (l.f i).Rests.n ≤ 6 := by
  unfold doorE at h
  by_cases h0 : (l.f i).Road < 0
  · rw [if_pos h0] at h; cases h
  rw [if_neg h0] at h
  by_cases h1 : (l.f i).Rests.n < 2
  · rw [if_pos h1] at h; cases h
  rw [if_neg h1] at h
  by_cases h2 : (l.f i).Rests.n > 6
  · rw [if_pos h2] at h; cases h
  omega
theorem airE_parts {a : SAir} (h : airE a = 0) : mineE a.Mine = 0 ∧ fansE a.Fans a.Mine.Roads.n = 0 ∧ doorsE2 a.Doors a.Mine.Roads.n = 0 := by
  unfold airE at h
  by_cases h0 : mineE a.Mine = 0
  · rw [if_neg (not_not_intro h0)] at h
    by_cases h1 : fansE a.Fans a.Mine.Roads.n = 0
    · rw [if_neg (not_not_intro h1)] at h; exact ⟨h0, h1, h⟩
    · rw [if_pos h1] at h; exact absurd h h1
  · rw [if_pos h0] at h; exact absurd h h0
theorem doorsE2_ok {D : Sq SDoor} {nr : Nat} (h : doorsE2 D nr = 0) : D.n ≤ 16 ∧ (∀ i, i < D.n → doorE D i = 0) ∧ ∀ i, i < D.n → 0 ≤ (D.f i).Road ∧ (D.f i).Road ≤ (nr : Int) - 1 := by
  unfold doorsE2 at h
  by_cases h0 : doorsE D = 0
  · rw [if_neg (not_not_intro h0)] at h
    obtain ⟨h1, h2⟩ := doorsE_ok h0
    refine ⟨h1, h2, fun i hi => ?_⟩
    cases hf : firstN (gDr D nr) D.n 0 with
    | some u => rw [hf] at h; cases h
    | none =>
      have := firstN_none hf i (by omega) (by omega)
      unfold gDr at this
      split at this
      · assumption
      · cases this
  · rw [if_pos h0] at h; exact absurd h h0
theorem fansE_ok {F : Sq SFan} {nr : Nat} (h : fansE F nr = 0) : F.n ≤ 8 ∧ (∀ i, i < F.n → fanE (F.f i) = 0) ∧ ∀ i, i < F.n → 0 ≤ (F.f i).Road ∧ (F.f i).Road ≤ (nr : Int) - 1 := by
  unfold fansE at h
  by_cases h0 : F.n > 8
  · rw [if_pos h0] at h; cases h
  rw [if_neg h0] at h
  have hne : ∀ i z, gF F nr i = some z → z ≠ 0 := by
    intro i z h
    unfold gF at h
    split at h
    · rename_i hq; injection h with h; subst h; exact hq
    · split at h
      · cases h
      · injection h with h; omega
  have hn := firstN_err hne h
  have all : ∀ i, i < F.n → fanE (F.f i) = 0 ∧ 0 ≤ (F.f i).Road ∧ (F.f i).Road ≤ (nr : Int) - 1 := by
    intro i hi
    have := firstN_none hn i (by omega) (by omega)
    unfold gF at this
    by_cases a1 : fanE (F.f i) = 0
    · rw [if_neg (not_not_intro a1)] at this
      split at this
      · exact ⟨a1, by assumption⟩
      · cases this
    · rw [if_pos a1] at this; cases this
  exact ⟨by omega, fun i hi => (all i hi).1, fun i hi => (all i hi).2⟩
theorem branch_belongs_v (a : SAir) (s : SSetting) (h : airE a = 0) : branch_belongs a s = some (rightB a s) := by
  obtain ⟨_, h2, h3⟩ := airE_parts h
  have hF := (fansE_ok h2).1
  obtain ⟨hD, hDe, _⟩ := doorsE2_ok h3
  rw [branch_belongs_eq]; unfold branch_belongs_t rightB
  by_cases a1 : s.Fans.n = a.Fans.n
  · rw [get_f (by simp [a1])]
    by_cases a2 : s.Doors.n = a.Doors.n
    · rw [get_f (by simp [a2])]
      have e1 : branch_belongs_l4 s.Fans a.Mine.Places a.Mine.Roads a.Fans a.Doors s.Doors 0 = some (sumO (firstN (gSf s.Fans) s.Fans.n 0)) := by
        rw [branch_belongs_l4_eq, ← sumO_eq]
        refine loop_first (step := fun v => branch_belongs_l4_step s.Fans a.Mine.Places a.Mine.Roads a.Fans a.Doors s.Doors v) (gSf s.Fans) (fun i hi => ?_) ?_ s.Fans.n 0 (Nat.zero_add _)
        · unfold branch_belongs_l4_step gSf
          rw [get_t (dlt hi), get_t (dix hi), wr_next (by omega), toNat_nat, get_bind (branch_within_v _ _ _)]
          by_cases b1 : -1 ≤ s.Fans.f i ∧ s.Fans.f i ≤ 2
          · rw [get_f (by simp only [decide_eq_true b1, Bool.not_true]), if_pos b1]; rfl
          · rw [get_t (by simp only [decide_eq_false b1, Bool.not_false]), if_neg b1]; rfl
        · unfold branch_belongs_l4_step
          rw [get_f (dge (Nat.le_refl _))]
          rfl
      have e2 : branch_belongs_l10 s.Doors a.Mine.Places a.Mine.Roads a.Fans a.Doors 0 = some (sumO (firstN (gSd s.Doors a.Doors) s.Doors.n 0)) := by
        rw [branch_belongs_l10_eq, ← sumO_eq]
        refine loop_first (step := fun v => branch_belongs_l10_step s.Doors a.Mine.Places a.Mine.Roads a.Fans a.Doors v) (gSd s.Doors a.Doors) (fun i hi => ?_) ?_ s.Doors.n 0 (Nat.zero_add _)
        · unfold branch_belongs_l10_step gSd
          have hr := doorE_rests (hDe i (by omega))
          rw [get_t (dlt hi), get_t (dix hi), get_t (dix (by omega)), wr_next (by omega), toNat_nat, wr_ok (by omega) (by omega), get_bind (branch_within_v _ _ _)]
          by_cases b1 : -1 ≤ s.Doors.f i ∧ s.Doors.f i ≤ ((a.Doors.f i).Rests.n : Int) - 1
          · rw [get_f (by simp only [decide_eq_true b1, Bool.not_true]), if_pos b1]; rfl
          · rw [get_t (by simp only [decide_eq_false b1, Bool.not_false]), if_neg b1]; rfl
        · unfold branch_belongs_l10_step
          rw [get_f (dge (Nat.le_refl _))]
          rfl
      rw [get_sum e1]
      cases firstN (gSf s.Fans) s.Fans.n 0 with
      | some u => rw [if_neg (by simp)]; rfl
      | none =>
        show DT.get (DT.sum _ _ _) = _
        rw [get_sum e2]
        cases firstN (gSd s.Doors a.Doors) s.Doors.n 0 with
        | some u => rw [if_neg (by simp)]; rfl
        | none => rw [if_pos ⟨h, a1, a2, rfl, rfl⟩]; rfl
    · rw [get_t (by simp; omega), if_neg (fun h => a2 h.2.2.1)]; rfl
  · rw [get_t (by simp; omega), if_neg (fun h => a1 h.2.1)]; rfl
theorem branch_Right_v (a : SAir) (s : SSetting) : branch_Right a s = some (rightB a s) := by
  rw [branch_Right_eq]; unfold branch_Right_t
  rw [get_bind (branch_Check_v a)]
  by_cases h : airE a = 0
  · rw [get_t (by simp [h]), get_bind (branch_belongs_v a s h)]; rfl
  · rw [get_f (by simp [h])]; unfold rightB; rw [if_neg (fun q => h q.1)]; rfl
theorem ref09_Right_v (a : SAir) (s : SSetting) : ref09_Right a s = some (rightB a s) := by
  rw [ref09_Right_eq]; unfold ref09_Right_t
  rw [get_bind (ref09_Check_v a)]
  by_cases h : airE a = 0
  · rw [get_f (by simp [h])]
    obtain ⟨_, h2, h3⟩ := airE_parts h
    have hF := (fansE_ok h2).1
    obtain ⟨hD, hDe, _⟩ := doorsE2_ok h3
    unfold rightB
    by_cases a1 : s.Fans.n = a.Fans.n
    · rw [get_f (by simp [a1])]
      by_cases a2 : s.Doors.n = a.Doors.n
      · rw [get_f (by simp [a2])]
        have e1 : ref09_Right_l4 a.Mine.Places a.Mine.Roads a.Fans a.Doors s.Fans s.Doors 0 = some (sumO (firstN (gSf s.Fans) s.Fans.n 0)) := by
          rw [ref09_Right_l4_eq, ← sumO_eq]
          refine loop_first (step := fun v => ref09_Right_l4_step a.Mine.Places a.Mine.Roads a.Fans a.Doors s.Fans s.Doors v) (gSf s.Fans) (fun i hi => ?_) ?_ s.Fans.n 0 (Nat.zero_add _)
          · unfold ref09_Right_l4_step gSf
            rw [get_t (dlt hi), get_t (dix hi), wr_next (by omega), toNat_nat]
            by_cases b1 : s.Fans.f i < -1
            · rw [get_t (decide_eq_true b1), if_neg (by omega)]; rfl
            rw [get_f (decide_eq_false b1), get_t (dix hi)]
            by_cases b2 : s.Fans.f i > 2
            · rw [get_t (decide_eq_true b2), if_neg (by omega)]; rfl
            · rw [get_f (decide_eq_false b2), if_pos (by omega)]; rfl
          · unfold ref09_Right_l4_step
            rw [get_f (dge (Nat.le_refl _))]
            rfl
        have e2 : ref09_Right_l9 a.Mine.Places a.Mine.Roads a.Fans a.Doors s.Fans s.Doors 0 = some (sumO (firstN (gSd s.Doors a.Doors) s.Doors.n 0)) := by
          rw [ref09_Right_l9_eq, ← sumO_eq]
          refine loop_first (step := fun v => ref09_Right_l9_step a.Mine.Places a.Mine.Roads a.Fans a.Doors s.Fans s.Doors v) (gSd s.Doors a.Doors) (fun i hi => ?_) ?_ s.Doors.n 0 (Nat.zero_add _)
          · unfold ref09_Right_l9_step gSd
            rw [get_t (dlt hi), get_t (dix hi), wr_next (by omega), toNat_nat]
            by_cases b1 : s.Doors.f i < -1
            · rw [get_t (decide_eq_true b1), if_neg (by omega)]; rfl
            rw [get_f (decide_eq_false b1), get_t (dix hi), get_t (dix (by omega))]
            by_cases b2 : s.Doors.f i ≥ ((a.Doors.f i).Rests.n : Int)
            · rw [get_t (decide_eq_true b2), if_neg (by omega)]; rfl
            · rw [get_f (decide_eq_false b2), if_pos (by omega)]; rfl
          · unfold ref09_Right_l9_step
            rw [get_f (dge (Nat.le_refl _))]
            rfl
        rw [get_sum e1]
        cases firstN (gSf s.Fans) s.Fans.n 0 with
        | some u => rw [if_neg (by simp)]; rfl
        | none =>
          show DT.get (DT.sum _ _ _) = _
          rw [get_sum e2]
          cases firstN (gSd s.Doors a.Doors) s.Doors.n 0 with
          | some u => rw [if_neg (by simp)]; rfl
          | none => rw [if_pos ⟨h, a1, a2, rfl, rfl⟩]; rfl
      · rw [get_t (by simp; omega), if_neg (fun h => a2 h.2.2.1)]; rfl
    · rw [get_t (by simp; omega), if_neg (fun h => a1 h.2.1)]; rfl
  · rw [get_t (by simp [h])]; unfold rightB; rw [if_neg (fun q => h q.1)]; rfl
end Go.Proofs.YtnoeblpanfbpjaaGreat.Ab
