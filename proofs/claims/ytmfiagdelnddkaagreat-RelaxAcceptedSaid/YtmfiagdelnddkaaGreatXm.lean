/- Stage 9, maths: the errors of mines, fans, doors and airs, by the program and by the document. -/
import Derived.Test.YtmfiagdelnddkaaGreatXb
import Derived.Test.YtmfiagdelnddkaaGreatZn
namespace Go.Proofs.YtmfiagdelnddkaaGreat.Ab
noncomputable section
open Go
theorem Js (n lo hi : Int) : vY n lo hi = some (decide (lo ≤ n ∧ n ≤ hi)) := by
  rw [Z7]; unfold Jr; simp only [DT.get_ite, DT.get_leaf]; split <;> simp_all <;> omega
theorem Mh (n lo hi : Int) : Hl n lo hi = some (decide (lo ≤ n ∧ n ≤ hi)) := by
  rw [abz]; unfold Mg; simp only [DT.get_ite, DT.get_leaf]; split <;> simp_all <;> omega
theorem Dx (n lo hi : Int) : zJ n lo hi = some (decide (lo ≤ n ∧ n ≤ hi)) := by
  rw [WH]; unfold Dv; simp only [DT.get_ite, DT.get_leaf]; split <;> simp_all <;> omega
theorem adA (s : aK) (lo hi : Int) : Ob s lo hi = some (decide (lo ≤ s.Low ∧ s.Low ≤ s.High ∧ s.High ≤ hi)) := by
  rw [abT]; unfold MJ; simp only [DT.get_ite, DT.get_leaf]; split
  · split <;> simp_all <;> omega
  · simp_all; omega
theorem adD (s : aK) (lo hi : Int) : Oc s lo hi = some (decide (lo ≤ s.Low ∧ s.Low ≤ s.High ∧ s.High ≤ hi)) := by
  rw [abZ]; unfold MR; simp only [DT.get_ite, DT.get_leaf]; split
  · split <;> simp_all <;> omega
  · simp_all; omega
theorem aeu (p q : aM) : YA p q = some (decide (p.Flow < q.Flow ∧ q.Pressure ≤ p.Pressure)) := by
  rw [ade]; unfold QM; simp only [DT.get_ite, DT.get_leaf]; split <;> simp_all <;> omega
theorem aaM (n k : Int) : XM n k = some (decide (0 ≤ k ∧ k < n)) := by
  rw [aen]; unfold UG; simp only [DT.get_ite, DT.get_leaf]; split <;> simp_all <;> omega
theorem UJ (r : Int) : DI r = some (decide (¬ (0 ≤ r ∧ r ≤ 262144))) := by
  rw [Sg]; unfold AQ; simp only [DT.get_ite, DT.get_leaf]
  split <;> simp_all
def Et (r : aB) (p : Int) : Int :=
  if ¬ (0 ≤ r.From ∧ r.From ≤ p - 1) then 4 else if ¬ (0 ≤ r.To ∧ r.To ≤ p - 1) then 4 else if r.From = r.To then 4
  else if ¬ (1 ≤ r.Length ∧ r.Length ≤ 100000) then 1 else if ¬ (1 ≤ r.Area ∧ r.Area ≤ 1000) then 1
  else if ¬ (1 ≤ r.Rest.Low ∧ r.Rest.Low ≤ r.Rest.High ∧ r.Rest.High ≤ 262144) then 1
  else if ¬ (-2199023255552 ≤ r.Lift.Low ∧ r.Lift.Low ≤ r.Lift.High ∧ r.Lift.High ≤ 2199023255552) then 1 else 0
theorem Xe (r : aB) (p : Int) (h0 : 0 ≤ p) (h1 : p ≤ 1000) : Gc r p = some (Et r p) := by
  rw [U4]; unfold BQ Et
  rw [aO (by omega) (by omega)]
  simp only [Js, adA, DT.get_some, DT.get_ite, DT.get_leaf, Bool.not_eq_true', decide_eq_false_iff_not, beq_iff_eq]
  repeat' (split; · rfl)
  rfl
def gP (P : Sq ay) (i : Nat) : Option Unit := if -10000 ≤ (P.f i).Height ∧ (P.f i).Height ≤ 10000 then none else some ()
def gR (np : Nat) (R : Sq aB) (i : Nat) : Option Int := if Et (R.f i) np = 0 then none else some (Et (R.f i) np)
def sumO {B : Type} : Option B → Unit ⊕ B
  | some b => .inr b
  | none => .inl ()
theorem jV {B : Type} (o : Option B) : (match o with | some b => (.inr b : Unit ⊕ B) | none => .inl ()) = sumO o := by cases o <;> rfl
theorem YO (P : Sq ay) (R : Sq aB) (h : P.n ≤ 64) : Jo P R 0 = some (sumO (aR (gP P) P.n 0)) := by
  rw [WZ, ← jV]
  refine aX (step := fun v => oO P R v) (gP P) (fun i hi => ?_) ?_ P.n 0 (Nat.zero_add _)
  · unfold oO gP
    rw [aA (dlt hi), aA (dix hi), aQ (by omega), aF]
    simp only [Js, DT.get_some, DT.get_ite, DT.get_leaf, Bool.not_eq_true', decide_eq_false_iff_not]
    split <;> simp_all
  · unfold oO
    rw [aD (dge (Nat.le_refl _))]
    rfl
theorem Xi (P : Sq ay) (R : Sq aB) (h : P.n ≤ 64) : Gf P R 0 = some (sumO (aR (gP P) P.n 0)) := by
  rw [U7, ← jV]
  refine aX (step := fun v => mZ P R v) (gP P) (fun i hi => ?_) ?_ P.n 0 (Nat.zero_add _)
  · unfold mZ gP
    rw [aA (dlt hi), aA (dix hi), aQ (by omega), aF]
    simp only [DT.get_ite, DT.get_leaf, decide_eq_true_eq]
    split
    · rw [if_neg (by omega)]
    · split
      · rw [if_neg (by omega)]
      · rw [if_pos (by omega)]
  · unfold mZ
    rw [aD (dge (Nat.le_refl _))]
    rfl
theorem WY (P : Sq ay) (R : Sq aB) (h : P.n ≤ 64) (h2 : R.n ≤ 128) : Gb R P 0 = some (sumO (aR (gR P.n R) R.n 0)) := by
  rw [UZ, ← jV]
  refine aX (step := fun v => mX R P v) (gR P.n R) (fun i hi => ?_) ?_ R.n 0 (Nat.zero_add _)
  · unfold mX gR
    rw [aA (dlt hi), aA (dix hi), aQ (by omega), aF, Xe _ _ (by omega) (by omega)]
    simp only [DT.get_some, DT.get_ite, DT.get_leaf, bne_iff_ne]
    by_cases hq : Et (R.f i) P.n = 0
    · rw [if_neg (by simp [hq]), if_pos hq]
    · rw [if_pos hq, if_neg hq]
  · unfold mX
    rw [aD (dge (Nat.le_refl _))]
    rfl
theorem U6 (P : Sq ay) (R : Sq aB) (_ : P.n ≤ 64) (h2 : R.n ≤ 128) : DW P R 0 = some (sumO (aR (gR P.n R) R.n 0)) := by
  rw [Tc, ← jV]
  refine aX (step := fun v => lK P R v) (gR P.n R) (fun i hi => ?_) ?_ R.n 0 (Nat.zero_add _)
  · unfold lK gR
    rw [aA (dlt hi), aA (dix hi), aQ (by omega), aF]
    simp only [adD, DT.get_some, DT.get_ite, DT.get_leaf, decide_eq_true_eq, Bool.not_eq_true', decide_eq_false_iff_not, beq_iff_eq]
    generalize R.f i = r
    unfold Et
    by_cases a1 : r.From < 0
    · rw [if_pos a1, if_pos (show ¬ (0 ≤ r.From ∧ r.From ≤ (P.n : Int) - 1) by omega)]; rfl
    rw [if_neg a1]
    by_cases a2 : r.From ≥ (P.n : Int)
    · rw [if_pos a2, if_pos (show ¬ (0 ≤ r.From ∧ r.From ≤ (P.n : Int) - 1) by omega)]; rfl
    rw [if_neg a2, if_neg (show ¬ ¬ (0 ≤ r.From ∧ r.From ≤ (P.n : Int) - 1) by omega)]
    by_cases a3 : r.To < 0
    · rw [if_pos a3, if_pos (show ¬ (0 ≤ r.To ∧ r.To ≤ (P.n : Int) - 1) by omega)]; rfl
    rw [if_neg a3]
    by_cases a4 : r.To ≥ (P.n : Int)
    · rw [if_pos a4, if_pos (show ¬ (0 ≤ r.To ∧ r.To ≤ (P.n : Int) - 1) by omega)]; rfl
    rw [if_neg a4, if_neg (show ¬ ¬ (0 ≤ r.To ∧ r.To ≤ (P.n : Int) - 1) by omega)]
    by_cases a5 : r.From = r.To
    · rw [if_pos a5, if_pos a5]; rfl
    rw [if_neg a5, if_neg a5]
    by_cases a6 : r.Length < 1
    · rw [if_pos a6, if_pos (show ¬ (1 ≤ r.Length ∧ r.Length ≤ 100000) by omega)]; rfl
    rw [if_neg a6]
    by_cases a7 : r.Length > 100000
    · rw [if_pos a7, if_pos (show ¬ (1 ≤ r.Length ∧ r.Length ≤ 100000) by omega)]; rfl
    rw [if_neg a7, if_neg (show ¬ ¬ (1 ≤ r.Length ∧ r.Length ≤ 100000) by omega)]
    by_cases a8 : r.Area < 1
    · rw [if_pos a8, if_pos (show ¬ (1 ≤ r.Area ∧ r.Area ≤ 1000) by omega)]; rfl
    rw [if_neg a8]
    by_cases a9 : r.Area > 1000
    · rw [if_pos a9, if_pos (show ¬ (1 ≤ r.Area ∧ r.Area ≤ 1000) by omega)]; rfl
    rw [if_neg a9, if_neg (show ¬ ¬ (1 ≤ r.Area ∧ r.Area ≤ 1000) by omega)]
    by_cases b1 : 1 ≤ r.Rest.Low ∧ r.Rest.Low ≤ r.Rest.High ∧ r.Rest.High ≤ 262144
    · rw [if_neg (not_not_intro b1), if_neg (not_not_intro b1)]
      by_cases b2 : -2199023255552 ≤ r.Lift.Low ∧ r.Lift.Low ≤ r.Lift.High ∧ r.Lift.High ≤ 2199023255552
      · rw [if_neg (not_not_intro b2), if_neg (not_not_intro b2)]; rfl
      · rw [if_pos b2, if_pos b2]; rfl
    · rw [if_pos b1, if_pos b1]; rfl
  · unfold lK
    rw [aD (dge (Nat.le_refl _))]
    rfl
def SE (m : aL) : Int :=
  if m.Places.n > 64 then 2 else if m.Roads.n > 128 then 2 else match aR (gP m.Places) m.Places.n 0 with
    | some _ => 1
    | none => match aR (gR m.Places.n m.Roads) m.Roads.n 0 with
      | some e => e
      | none => 0
theorem VZ (m : aL) : N8 m = some (SE m) := by
  rw [abN]; unfold Mx SE
  by_cases h1 : m.Places.n > 64
  · rw [aA (decide_eq_true (by omega)), if_pos h1]; rfl
  rw [aD (decide_eq_false (by omega)), if_neg h1]
  by_cases h2 : m.Roads.n > 128
  · rw [aA (decide_eq_true (by omega)), if_pos h2]; rfl
  rw [aD (decide_eq_false (by omega)), if_neg h2, aI (YO _ _ (by omega))]
  cases aR (gP m.Places) m.Places.n 0 with
  | some _ => rfl
  | none =>
    show DT.get (DT.sum _ _ _) = _
    rw [aI (WY _ _ (by omega) (by omega))]
    cases aR (gR m.Places.n m.Roads) m.Roads.n 0 <;> rfl
theorem abW (m : aL) : Q7 m = some (SE m) := by
  rw [Z8]; unfold Jt SE
  by_cases h1 : m.Places.n > 64
  · rw [aA (decide_eq_true (by omega)), if_pos h1]; rfl
  rw [aD (decide_eq_false (by omega)), if_neg h1]
  by_cases h2 : m.Roads.n > 128
  · rw [aA (decide_eq_true (by omega)), if_pos h2]; rfl
  rw [aD (decide_eq_false (by omega)), if_neg h2, aI (Xi _ _ (by omega))]
  cases aR (gP m.Places) m.Places.n 0 with
  | some _ => rfl
  | none =>
    show DT.get (DT.sum _ _ _) = _
    rw [aI (U6 _ _ (by omega) (by omega))]
    cases aR (gR m.Places.n m.Roads) m.Roads.n 0 <;> rfl
def gC (c : Sq aM) (i : Nat) : Option Int :=
  if ¬ (-1048576 ≤ (c.f i).Flow ∧ (c.f i).Flow ≤ 1048576) then some 1 else if ¬ (0 ≤ (c.f i).Pressure ∧ (c.f i).Pressure ≤ 2199023255552) then some 1
  else if 0 < i ∧ ¬ ((c.f (i - 1)).Flow < (c.f i).Flow ∧ (c.f i).Pressure ≤ (c.f (i - 1)).Pressure) then some 14 else none
def fanE (f : SFan) : Int := if f.Road < 0 then 4 else if f.Curve.n = 0 then 2 else if f.Curve.n > 8 then 2 else match aR (gC f.Curve) f.Curve.n 0 with
  | some e => e
  | none => 0
theorem XV {i : Nat} (h0 : 0 < i) (h : i ≤ 1000000) : wr ((i : Int) - 1) = ((i - 1 : Nat) : Int) := by rw [aO (by omega) (by omega)]; omega
theorem ZN (c : Sq aM) (a : Int) (b d : Bool) (h : c.n ≤ 8) : Me c a b d 0 = some (sumO (aR (gC c) c.n 0)) := by
  rw [Yv, ← jV]
  refine aX (step := fun v => qG c a b d v) (gC c) (fun i hi => ?_) ?_ c.n 0 (Nat.zero_add _)
  · unfold qG gC
    rw [aA (dlt hi), aA (dix hi), aQ (by omega), aF]
    rw [get_bind (Mh _ _ _)]
    by_cases a1 : -1048576 ≤ (c.f i).Flow ∧ (c.f i).Flow ≤ 1048576
    · rw [aD (by simp [a1]), if_neg (not_not_intro a1), get_bind (Mh _ _ _)]
      by_cases a2 : 0 ≤ (c.f i).Pressure ∧ (c.f i).Pressure ≤ 2199023255552
      · rw [aD (by simp [a2]), if_neg (not_not_intro a2)]
        by_cases a3 : 0 < i
        · rw [aA (decide_eq_true (by omega)), XV a3 (by omega), aA (dix (by omega)), aF, get_bind (aeu _ _)]
          by_cases a4 : (c.f (i - 1)).Flow < (c.f i).Flow ∧ (c.f i).Pressure ≤ (c.f (i - 1)).Pressure
          · rw [aD (by simp [a4]), if_neg (fun h => h.2 a4)]; rfl
          · rw [aA (by simp only [decide_eq_false a4, Bool.not_false]), if_pos ⟨a3, a4⟩]; rfl
        · rw [aD (decide_eq_false (by omega)), if_neg (fun h => a3 h.1)]; rfl
      · rw [aA (by simp only [decide_eq_false a2, Bool.not_false]), if_pos a2]; rfl
    · rw [aA (by simp only [decide_eq_false a1, Bool.not_false]), if_pos a1]; rfl
  · unfold qG
    rw [aD (dge (Nat.le_refl _))]
    rfl
theorem Xp (c : Sq aM) (a : Int) (b d : Bool) (h : c.n ≤ 8) : Gg a b d c 0 = some (sumO (aR (gC c) c.n 0)) := by
  rw [Vb, ← jV]
  refine aX (step := fun v => ng a b d c v) (gC c) (fun i hi => ?_) ?_ c.n 0 (Nat.zero_add _)
  · unfold ng gC
    rw [aA (dlt hi), aA (dix hi), aQ (by omega), aF]
    by_cases a1 : (c.f i).Flow < -1048576
    · rw [aA (decide_eq_true a1), if_pos (by omega)]; rfl
    rw [aD (decide_eq_false a1)]
    by_cases a2 : (c.f i).Flow > 1048576
    · rw [aA (decide_eq_true a2), if_pos (by omega)]; rfl
    rw [aD (decide_eq_false a2), if_neg (by omega)]
    by_cases a3 : (c.f i).Pressure < 0
    · rw [aA (decide_eq_true a3), if_pos (by omega)]; rfl
    rw [aD (decide_eq_false a3)]
    by_cases a4 : (c.f i).Pressure > 2199023255552
    · rw [aA (decide_eq_true a4), if_pos (by omega)]; rfl
    rw [aD (decide_eq_false a4), if_neg (by omega)]
    by_cases a5 : 0 < i
    · rw [aA (decide_eq_true (by omega)), XV a5 (by omega), aA (dix (by omega)), aF]
      by_cases a6 : (c.f i).Flow ≤ (c.f (i - 1)).Flow
      · rw [aA (decide_eq_true a6), if_pos ⟨a5, by omega⟩]; rfl
      rw [aD (decide_eq_false a6), aA (dix (by omega))]
      by_cases a7 : (c.f i).Pressure > (c.f (i - 1)).Pressure
      · rw [aA (decide_eq_true a7), if_pos ⟨a5, by omega⟩]; rfl
      · rw [aD (decide_eq_false a7), if_neg (by omega)]; rfl
    · rw [aD (decide_eq_false (by omega)), if_neg (by omega)]; rfl
  · unfold ng
    rw [aD (dge (Nat.le_refl _))]
    rfl
theorem Yw (f : SFan) : Sk f = some (fanE f) := by
  rw [adb]; unfold QK fanE
  by_cases h0 : f.Road < 0
  · rw [aA (decide_eq_true h0), if_pos h0]; rfl
  rw [aD (decide_eq_false h0), if_neg h0]
  by_cases h1 : f.Curve.n = 0
  · rw [aA (by simp [h1]), if_pos h1]; rfl
  rw [aD (by simp [h1]), if_neg h1]
  by_cases h2 : f.Curve.n > 8
  · rw [aA (decide_eq_true (by omega)), if_pos h2]; rfl
  rw [aD (decide_eq_false (by omega)), if_neg h2, aI (ZN _ _ _ _ (by omega))]
  cases aR (gC f.Curve) f.Curve.n 0 <;> rfl
theorem ab2 (f : SFan) : Rb f = some (fanE f) := by
  rw [aag]; unfold Jz fanE
  by_cases h0 : f.Road < 0
  · rw [aA (decide_eq_true h0), if_pos h0]; rfl
  rw [aD (decide_eq_false h0), if_neg h0]
  by_cases h1 : f.Curve.n = 0
  · rw [aA (decide_eq_true (by omega)), if_pos h1]; rfl
  rw [aD (decide_eq_false (by omega)), if_neg h1]
  by_cases h2 : f.Curve.n > 8
  · rw [aA (decide_eq_true (by omega)), if_pos h2]; rfl
  rw [aD (decide_eq_false (by omega)), if_neg h2, aI (Xp _ _ _ _ (by omega))]
  cases aR (gC f.Curve) f.Curve.n 0 <;> rfl
def gO (r : Sq Int) (i : Nat) : Option Unit := if 0 ≤ r.f i ∧ r.f i ≤ 262144 then none else some ()
def gD (r : Sq Int) (i : Nat) : Option Unit := if 0 < i ∧ r.f i ≥ r.f (i - 1) then some () else none
def za (l : Sq aC) (i : Nat) : Prop := (l.f i).Other = -1 ∨ ((l.f i).Other ≠ i ∧ 0 ≤ (l.f i).Other ∧ (l.f i).Other < l.n ∧ (l.f (l.f i).Other.toNat).Other = i)
open Classical in
def DC (l : Sq aC) (i : Nat) : Int := if (l.f i).Road < 0 then 4 else if (l.f i).Rests.n < 2 then 2 else if (l.f i).Rests.n > 6 then 2
  else match aR (gO (l.f i).Rests) (l.f i).Rests.n 0 with
    | some _ => 1
    | none => match aR (gD (l.f i).Rests) (l.f i).Rests.n 0 with
      | some _ => 15
      | none => if za l i then 0 else 15
def gIx (r : Sq Int) (i : Nat) : Option Int := if 0 ≤ r.f i ∧ r.f i ≤ 262144 then none else some (i : Int)
theorem akK (r : Sq Int) : ∀ k i, (aR (gIx r) k i).isSome = (aR (gO r) k i).isSome ∧ ∀ z, aR (gIx r) k i = some z → 0 ≤ z := by
  intro k
  induction k with
  | zero => intro i; exact ⟨rfl, fun z h => by cases h⟩
  | succ k ih =>
    intro i
    unfold aR gIx gO
    by_cases h : 0 ≤ r.f i ∧ r.f i ≤ 262144
    · rw [if_pos h, if_pos h]; exact ih (i + 1)
    · rw [if_neg h, if_neg h]; exact ⟨rfl, fun z hz => by injection hz with hz; omega⟩
theorem NJ (r : Sq Int) (h : r.n ≤ 6) : zk r 0 = some (sumO (aR (gIx r) r.n 0)) := by
  rw [Ld, ← jV]
  refine aX (step := fun v => iL r v) (gIx r) (fun i hi => ?_) ?_ r.n 0 (Nat.zero_add _)
  · unfold iL gIx
    rw [aA (dlt hi), aA (dix hi), aQ (by omega), aF]
    rw [get_bind (UJ _)]
    by_cases a1 : 0 ≤ r.f i ∧ r.f i ≤ 262144
    · rw [aD (decide_eq_false (not_not_intro a1)), if_pos a1]; rfl
    · rw [aA (decide_eq_true a1), if_neg a1]; rfl
  · unfold iL
    rw [aD (dge (Nat.le_refl _))]
    rfl
theorem NI (r : Sq Int) (h : r.n ≤ 6) : slices_ContainsFunc r = some (aR (gO r) r.n 0).isSome := by
  rw [Lb]; unfold wN
  have e : slices_IndexFunc r = some (match aR (gIx r) r.n 0 with | some z => z | none => -1) := by
    rw [Rt]; unfold Aa
    rw [aI (NJ r h)]
    cases aR (gIx r) r.n 0 <;> rfl
  rw [get_bind e, DT.get_leaf]
  obtain ⟨h1, h2⟩ := akK r r.n 0
  rw [← h1]
  cases hf : aR (gIx r) r.n 0 with
  | none => rfl
  | some z => exact congrArg some (decide_eq_true (h2 z hf))
theorem ZK (r : Sq Int) (h : r.n ≤ 6) : Ma r = some (aR (gD r) r.n 0).isNone := by
  rw [Yr]; unfold F4
  have e : DF r 0 = some (sumO (aR (gD r) r.n 0)) := by
    rw [Sc, ← jV]
    refine aX (step := fun v => lJ r v) (gD r) (fun i hi => ?_) ?_ r.n 0 (Nat.zero_add _)
    · unfold lJ gD
      rw [aA (dlt hi), aQ (by omega), aF]
      by_cases a3 : 0 < i
      · rw [aA (decide_eq_true (by omega)), XV a3 (by omega), aA (dix hi), aA (dix (by omega)), aF]
        by_cases a4 : r.f i ≥ r.f (i - 1)
        · rw [aA (decide_eq_true a4), if_pos ⟨a3, a4⟩]; rfl
        · rw [aD (decide_eq_false a4), if_neg (fun h => a4 h.2)]; rfl
      · rw [aD (decide_eq_false (by omega)), if_neg (fun h => a3 h.1)]; rfl
    · unfold lJ
      rw [aD (dge (Nat.le_refl _))]
      rfl
  rw [aI e]
  cases aR (gD r) r.n 0 <;> rfl
theorem aeM (l : Sq aC) (a b : Int) (r : Sq Int) (i : Int) (h : r.n ≤ 6) : DY l a b r i 0 = some (sumO (aR (gO r) r.n 0)) := by
  rw [Tj, ← jV]
  refine aX (step := fun v => lM l a b r i v) (gO r) (fun i hi => ?_) ?_ r.n 0 (Nat.zero_add _)
  · unfold lM gO
    rw [aA (dlt hi), aA (dix hi), aQ (by omega), aF]
    by_cases a1 : r.f i < 0
    · rw [aA (decide_eq_true a1), if_neg (by omega)]; rfl
    rw [aD (decide_eq_false a1), aA (dix hi)]
    by_cases a2 : r.f i > 262144
    · rw [aA (decide_eq_true a2), if_neg (by omega)]; rfl
    · rw [aD (decide_eq_false a2), if_pos (by omega)]; rfl
  · unfold lM
    rw [aD (dge (Nat.le_refl _))]
    rfl
theorem aeN (l : Sq aC) (a b : Int) (r : Sq Int) (i : Int) (h : r.n ≤ 6) (h2 : 2 ≤ r.n) : DZ l a b r i 1 = some (sumO (aR (gD r) r.n 0)) := by
  rw [Tk]
  have e : aR (gD r) r.n 0 = aR (gD r) (r.n - 1) 1 := by
    obtain ⟨m, hm⟩ : ∃ m, r.n = m + 1 := ⟨r.n - 1, by omega⟩
    rw [hm]
    show (match gD r 0 with | some b => some b | none => aR (gD r) m 1) = _
    unfold gD
    rw [if_neg (fun h => absurd h.1 (by omega))]
    rfl
  rw [e, ← jV]
  refine ahs (n := r.n) (step := fun v => lN l a b r i v) 1 (gD r) (fun i h0 hi => ?_) ?_ (r.n - 1) 1 (Nat.le_refl _) (by omega)
  · unfold lN gD
    rw [aA (dlt hi), aA (dix hi), aQ (by omega), aF, XV h0 (by omega), aA (dix (by omega)), aF]
    by_cases a4 : r.f i ≥ r.f (i - 1)
    · rw [aA (decide_eq_true a4), if_pos ⟨h0, a4⟩]; rfl
    · rw [aD (decide_eq_false a4), if_neg (fun h => a4 h.2)]; rfl
  · unfold lN
    rw [aD (dge (Nat.le_refl _))]
    rfl
open Classical in
theorem abv (l : Sq aC) (i : Nat) (hi : i < l.n) : QI l i = some (decide (za l i)) := by
  rw [ZL]; unfold I5
  rw [aA (dix hi), aF]
  by_cases a1 : (l.f i).Other = -1
  · rw [aA (by simp [a1]), decide_eq_true (show za l i from .inl a1)]; rfl
  rw [aD (by simp [a1])]
  by_cases a2 : (l.f i).Other = i
  · rw [aD (by simp [a2]), decide_eq_false (show ¬ za l i from fun h => h.elim a1 fun h => h.1 a2)]; rfl
  rw [aA (by simp [a2]), get_bind (aaM _ _)]
  by_cases a3 : 0 ≤ (l.f i).Other ∧ (l.f i).Other < (l.n : Int)
  · rw [aA (decide_eq_true a3), aA (decide_eq_true a3), DT.get_leaf]
    by_cases a4 : (l.f (l.f i).Other.toNat).Other = i
    · rw [decide_eq_true (show za l i from .inr ⟨a2, a3.1, a3.2, a4⟩)]; simp [a4]
    · rw [decide_eq_false (show ¬ za l i from fun h => h.elim a1 fun h => a4 h.2.2.2)]; simp [a4]
  · rw [aD (decide_eq_false a3), decide_eq_false (show ¬ za l i from fun h => h.elim a1 fun h => a3 ⟨h.2.1, h.2.2.1⟩)]; rfl
theorem WO (l : Sq aC) (i : Nat) (hi : i < l.n) : F3 l i = some (DC l i) := by
  rw [UF]; unfold BP DC
  rw [aA (dix hi), aF]
  by_cases a1 : (l.f i).Road < 0
  · rw [aA (decide_eq_true a1), if_pos a1]; rfl
  rw [aD (decide_eq_false a1), if_neg a1]
  by_cases a2 : (l.f i).Rests.n < 2
  · rw [aA (decide_eq_true (by omega)), if_pos a2]; rfl
  rw [aD (decide_eq_false (by omega)), if_neg a2]
  by_cases a3 : (l.f i).Rests.n > 6
  · rw [aA (decide_eq_true (by omega)), if_pos a3]; rfl
  rw [aD (decide_eq_false (by omega)), if_neg a3, get_bind (NI _ (by omega))]
  cases aR (gO (l.f i).Rests) (l.f i).Rests.n 0 with
  | some _ => rfl
  | none =>
    rw [aD (b := (none : Option Unit).isSome) rfl, get_bind (ZK _ (by omega))]
    cases aR (gD (l.f i).Rests) (l.f i).Rests.n 0 with
    | some _ => rfl
    | none =>
      rw [aD (b := !(none : Option Unit).isNone) rfl, get_bind (abv l i hi)]
      by_cases a4 : za l i
      · rw [aD (by simp [a4])]; simp [a4]
      · rw [aA (by simp [a4])]; simp [a4]
def gDo (l : Sq aC) (i : Nat) : Option Int := if DC l i = 0 then none else some (DC l i)
def zM (l : Sq aC) : Int := if l.n > 16 then 2 else match aR (gDo l) l.n 0 with
  | some e => e
  | none => 0
theorem ac4 (l : Sq aC) : UE l = some (zM l) := by
  rw [abt]; unfold L9 zM
  by_cases h0 : l.n > 16
  · rw [aA (decide_eq_true (by omega)), if_pos h0]; rfl
  rw [aD (decide_eq_false (by omega)), if_neg h0]
  have e : I4 l 0 = some (sumO (aR (gDo l) l.n 0)) := by
    rw [WL, ← jV]
    refine aX (step := fun v => oK l v) (gDo l) (fun i hi => ?_) ?_ l.n 0 (Nat.zero_add _)
    · unfold oK gDo
      rw [aA (dlt hi), aQ (by omega), get_bind (WO l i hi)]
      by_cases hq : DC l i = 0
      · rw [aD (by simp [hq]), if_pos hq]; rfl
      · rw [aA (by simp [hq]), if_neg hq]; rfl
    · unfold oK
      rw [aD (dge (Nat.le_refl _))]
      rfl
  rw [aI e]
  cases aR (gDo l) l.n 0 <;> rfl
open Classical in
theorem ab4 (l : Sq aC) : Rf l = some (zM l) := by
  rw [aaj]; unfold JH zM
  by_cases h0 : l.n > 16
  · rw [aA (decide_eq_true (by omega)), if_pos h0]; rfl
  rw [aD (decide_eq_false (by omega)), if_neg h0]
  have e : Gi l 0 = some (sumO (aR (gDo l) l.n 0)) := by
    rw [Vg, ← jV]
    refine aX (step := fun v => ni l v) (gDo l) (fun i hi => ?_) ?_ l.n 0 (Nat.zero_add _)
    · unfold ni gDo DC
      rw [aA (dlt hi), aA (dix hi), aQ (by omega), aF]
      by_cases a1 : (l.f i).Road < 0
      · rw [aA (decide_eq_true a1), if_pos a1]; rfl
      rw [aD (decide_eq_false a1), if_neg a1]
      by_cases a2 : (l.f i).Rests.n < 2
      · rw [aA (decide_eq_true (by omega)), if_pos a2]; rfl
      rw [aD (decide_eq_false (by omega)), if_neg a2]
      by_cases a3 : (l.f i).Rests.n > 6
      · rw [aA (decide_eq_true (by omega)), if_pos a3]; rfl
      rw [aD (decide_eq_false (by omega)), if_neg a3, aI (aeM l _ _ _ _ (by omega))]
      cases aR (gO (l.f i).Rests) (l.f i).Rests.n 0 with
      | some _ => rfl
      | none =>
        show DT.get (DT.sum _ _ _) = _
        rw [aI (aeN l _ _ _ _ (by omega) (by omega))]
        cases aR (gD (l.f i).Rests) (l.f i).Rests.n 0 with
        | some _ => rfl
        | none =>
          show DT.get (DT.ite _ _ _) = _
          dsimp only
          by_cases b1 : (l.f i).Other = -1
          · rw [aD (by simp [b1]), if_pos (show (if za l i then (0 : Int) else 15) = 0 by rw [if_pos (show za l i from .inl b1)])]; rfl
          rw [aA (by simp [b1])]
          by_cases b2 : (l.f i).Other < 0
          · rw [aA (decide_eq_true b2), if_neg (show ¬ za l i from fun h => h.elim b1 fun h => by omega)]; rfl
          rw [aD (decide_eq_false b2)]
          by_cases b3 : (l.f i).Other ≥ (l.n : Int)
          · rw [aA (decide_eq_true b3), if_neg (show ¬ za l i from fun h => h.elim b1 fun h => by omega)]; rfl
          rw [aD (decide_eq_false b3)]
          by_cases b4 : (l.f i).Other = i
          · rw [aA (by simp [b4]), if_neg (show ¬ za l i from fun h => h.elim b1 fun h => h.1 b4)]; rfl
          rw [aD (by simp [b4]), aA (decide_eq_true ⟨by omega, by omega⟩)]
          by_cases b5 : (l.f (l.f i).Other.toNat).Other = i
          · rw [aD (by simp [b5]), if_pos (show za l i from .inr ⟨b4, by omega, by omega, b5⟩)]; rfl
          · rw [aA (by simp [b5]), if_neg (show ¬ za l i from fun h => h.elim b1 fun h => b5 h.2.2.2)]; rfl
    · unfold ni
      rw [aD (dge (Nat.le_refl _))]
      rfl
  rw [aI e]
  cases aR (gDo l) l.n 0 <;> rfl
def gF (F : Sq SFan) (nr : Nat) (i : Nat) : Option Int := if fanE (F.f i) ≠ 0 then some (fanE (F.f i)) else if 0 ≤ (F.f i).Road ∧ (F.f i).Road ≤ (nr : Int) - 1 then none else some 4
def Mi (F : Sq SFan) (nr : Nat) : Int := if F.n > 8 then 2 else match aR (gF F nr) F.n 0 with
  | some e => e
  | none => 0
def gDr (D : Sq aC) (nr : Nat) (i : Nat) : Option Unit := if 0 ≤ (D.f i).Road ∧ (D.f i).Road ≤ (nr : Int) - 1 then none else some ()
def zN (D : Sq aC) (nr : Nat) : Int := if zM D ≠ 0 then zM D else match aR (gDr D nr) D.n 0 with
  | some _ => 4
  | none => 0
def airE (a : SAir) : Int := if SE a.Mine ≠ 0 then SE a.Mine else if Mi a.Fans a.Mine.Roads.n ≠ 0 then Mi a.Fans a.Mine.Roads.n else zN a.Doors a.Mine.Roads.n
theorem NW {g : Nat → Option Int} (hg : ∀ i z, g i = some z → z ≠ 0) {n i : Nat} (h : (match aR g n i with | some e => e | none => 0) = 0) : aR g n i = none := by
  cases hf : aR g n i with
  | none => rfl
  | some z =>
    rw [hf] at h
    obtain ⟨j, _, _, h3, _⟩ := yV hf
    exact absurd h (hg j z h3)
structure uV (m : aL) : Prop where
  np : m.Places.n ≤ 64
  nr : m.Roads.n ≤ 128
  h : ∀ i, i < m.Places.n → -10000 ≤ (m.Places.f i).Height ∧ (m.Places.f i).Height ≤ 10000
  r : ∀ i, i < m.Roads.n → Et (m.Roads.f i) m.Places.n = 0
theorem alg {np : Nat} {R : Sq aB} : ∀ i z, gR np R i = some z → z ≠ 0 := by
  intro i z h
  unfold gR at h
  split at h
  · cases h
  · rename_i hq; injection h with h; subst h; exact hq
theorem Jl (m : aL) : SE m = 0 ↔ uV m := by
  unfold SE
  by_cases h1 : m.Places.n > 64
  · rw [if_pos h1]; exact ⟨fun h => by omega, fun h => absurd h.np (by omega)⟩
  rw [if_neg h1]
  by_cases h2 : m.Roads.n > 128
  · rw [if_pos h2]; exact ⟨fun h => by omega, fun h => absurd h.nr (by omega)⟩
  rw [if_neg h2]
  cases hp : aR (gP m.Places) m.Places.n 0 with
  | some u =>
    refine ⟨fun h => (by cases h), fun h => ?_⟩
    obtain ⟨j, _, h4, h5, _⟩ := yV hp
    have := h.h j (by omega)
    unfold gP at h5
    rw [if_pos this] at h5
    cases h5
  | none =>
    constructor
    · intro h
      have hr := NW alg h
      refine ⟨by omega, by omega, fun i hi => ?_, fun i hi => ?_⟩
      · have := jf hp i (by omega) (by omega)
        unfold gP at this
        split at this
        · assumption
        · cases this
      · have := jf hr i (by omega) (by omega)
        unfold gR at this
        split at this
        · assumption
        · cases this
    · intro h
      have : aR (gR m.Places.n m.Roads) m.Roads.n 0 = none := dx fun j _ hj => by
        unfold gR
        rw [if_pos (h.r j (by omega))]
      rw [this]
theorem BM (a : SAir) (k : Int) (h : a.Mine.Roads.n ≤ 128) : yt a k = some (decide (0 ≤ k ∧ k ≤ (a.Mine.Roads.n : Int) - 1)) := by
  rw [Uu]; unfold BL
  rw [aO (by omega) (by omega), get_bind (Dx _ _ _)]
  rfl
theorem RU (a : SAir) (h : a.Mine.Roads.n ≤ 128) : BJ a = some (Mi a.Fans a.Mine.Roads.n) := by
  rw [Qx]; unfold zI Mi
  by_cases h0 : a.Fans.n > 8
  · rw [aA (decide_eq_true (by omega)), if_pos h0]; rfl
  rw [aD (decide_eq_false (by omega)), if_neg h0]
  have e : yQ a.Fans a.Mine.Places a.Mine.Roads a.Doors 0 = some (sumO (aR (gF a.Fans a.Mine.Roads.n) a.Fans.n 0)) := by
    rw [KZ, ← jV]
    refine aX (step := fun v => iI a.Fans a.Mine.Places a.Mine.Roads a.Doors v) (gF a.Fans a.Mine.Roads.n) (fun i hi => ?_) ?_ a.Fans.n 0 (Nat.zero_add _)
    · unfold iI gF
      rw [aA (dlt hi), aA (dix hi), aQ (by omega), aF, get_bind (Yw _)]
      by_cases a1 : fanE (a.Fans.f i) = 0
      · rw [aD (by simp [a1]), if_neg (not_not_intro a1), get_bind (BM _ _ h)]
        by_cases a2 : 0 ≤ (a.Fans.f i).Road ∧ (a.Fans.f i).Road ≤ (a.Mine.Roads.n : Int) - 1
        · rw [aD (by simp only [decide_eq_true a2, Bool.not_true]), if_pos a2]; rfl
        · rw [aA (by simp only [decide_eq_false a2, Bool.not_false]), if_neg a2]; rfl
      · rw [aA (by simp [a1]), if_pos a1]; rfl
    · unfold iI
      rw [aD (dge (Nat.le_refl _))]
      rfl
  rw [aI e]
  cases aR (gF a.Fans a.Mine.Roads.n) a.Fans.n 0 <;> rfl
theorem Qw (a : SAir) (h : a.Mine.Roads.n ≤ 128) : AA a = some (zN a.Doors a.Mine.Roads.n) := by
  rw [OE]; unfold yP zN
  rw [get_bind (ac4 _)]
  by_cases h0 : zM a.Doors = 0
  · rw [aD (by simp [h0]), if_neg (not_not_intro h0)]
    have hn : a.Doors.n ≤ 16 := by
      unfold zM at h0
      split at h0
      · cases h0
      · omega
    have e : xM a.Doors a.Mine.Places a.Mine.Roads a.Fans 0 = some (sumO (aR (gDr a.Doors a.Mine.Roads.n) a.Doors.n 0)) := by
      rw [IQ, ← jV]
      refine aX (step := fun v => gJ a.Doors a.Mine.Places a.Mine.Roads a.Fans v) (gDr a.Doors a.Mine.Roads.n) (fun i hi => ?_) ?_ a.Doors.n 0 (Nat.zero_add _)
      · unfold gJ gDr
        rw [aA (dlt hi), aA (dix hi), aQ (by omega), aF, get_bind (BM _ _ h)]
        by_cases a2 : 0 ≤ (a.Doors.f i).Road ∧ (a.Doors.f i).Road ≤ (a.Mine.Roads.n : Int) - 1
        · rw [aD (by simp only [decide_eq_true a2, Bool.not_true]), if_pos a2]; rfl
        · rw [aA (by simp only [decide_eq_false a2, Bool.not_false]), if_neg a2]; rfl
      · unfold gJ
        rw [aD (dge (Nat.le_refl _))]
        rfl
    rw [aI e]
    cases aR (gDr a.Doors a.Mine.Roads.n) a.Doors.n 0 <;> rfl
  · rw [aA (by simp [h0]), if_pos h0]; rfl
theorem Px (a : SAir) : Fa a = some (airE a) := by
  rw [Yf]; unfold FP airE
  rw [get_bind (VZ _)]
  by_cases h0 : SE a.Mine = 0
  · have hm := (Jl _).1 h0
    rw [aD (by simp [h0]), if_neg (not_not_intro h0), get_bind (RU a hm.nr)]
    by_cases h1 : Mi a.Fans a.Mine.Roads.n = 0
    · rw [aD (by simp [h1]), if_neg (not_not_intro h1), get_bind (Qw a hm.nr)]; rfl
    · rw [aA (by simp [h1]), if_pos h1]; rfl
  · rw [aA (by simp [h0]), if_pos h0]; rfl
theorem akJ {l : Sq aC} : ∀ i z, gDo l i = some z → z ≠ 0 := by
  intro i z h
  unfold gDo at h
  split at h
  · cases h
  · rename_i hq; injection h with h; subst h; exact hq
theorem ac7 {l : Sq aC} (h : zM l = 0) : l.n ≤ 16 ∧ ∀ i, i < l.n → DC l i = 0 := by
  unfold zM at h
  by_cases h0 : l.n > 16
  · rw [if_pos h0] at h; cases h
  rw [if_neg h0] at h
  refine ⟨by omega, fun i hi => ?_⟩
  have := jf (NW akJ h) i (by omega) (by omega)
  unfold gDo at this
  split at this
  · assumption
  · cases this
theorem UD {l : Sq aC} {i : Nat} (h : DC l i = 0) : 0 ≤ (l.f i).Road := by
  unfold DC at h
  by_cases h0 : (l.f i).Road < 0
  · rw [if_pos h0] at h; cases h
  · omega
theorem ac9 {f : SFan} (h : fanE f = 0) : 0 ≤ f.Road := by
  unfold fanE at h
  by_cases h0 : f.Road < 0
  · rw [if_pos h0] at h; cases h
  · omega
theorem Tq (a : SAir) : JJ a = some (airE a) := by
  rw [aak]; unfold JK airE
  rw [get_bind (abW _)]
  by_cases h0 : SE a.Mine = 0
  · have hm := (Jl _).1 h0
    rw [aD (by simp [h0]), if_neg (not_not_intro h0)]
    unfold Mi zN
    by_cases hn : a.Fans.n > 8
    · rw [aA (decide_eq_true (by omega)), if_pos hn]; rfl
    rw [aD (decide_eq_false (by omega)), if_neg hn]
    have e : Gj a.Mine.Places a.Mine.Roads a.Fans a.Doors 0 = some (sumO (aR (gF a.Fans a.Mine.Roads.n) a.Fans.n 0)) := by
      rw [Vi, ← jV]
      refine aX (step := fun v => nA a.Mine.Places a.Mine.Roads a.Fans a.Doors v) (gF a.Fans a.Mine.Roads.n) (fun i hi => ?_) ?_ a.Fans.n 0 (Nat.zero_add _)
      · unfold nA gF
        rw [aA (dlt hi), aA (dix hi), aQ (by omega), aF, get_bind (ab2 _)]
        by_cases a1 : fanE (a.Fans.f i) = 0
        · have := ac9 a1
          rw [aD (by simp [a1]), if_neg (not_not_intro a1), aA (dix hi)]
          by_cases a2 : 0 ≤ (a.Fans.f i).Road ∧ (a.Fans.f i).Road ≤ (a.Mine.Roads.n : Int) - 1
          · rw [aD (decide_eq_false (by omega)), if_pos a2]; rfl
          · rw [aA (decide_eq_true (by omega)), if_neg a2]; rfl
        · rw [aA (by simp [a1]), if_pos a1]; rfl
      · unfold nA
        rw [aD (dge (Nat.le_refl _))]
        rfl
    rw [aI e]
    have hne : ∀ i z, gF a.Fans a.Mine.Roads.n i = some z → z ≠ 0 := by
      intro i z h
      unfold gF at h
      split at h
      · rename_i hq; injection h with h; subst h; exact hq
      · split at h
        · cases h
        · injection h with h; omega
    cases hf : aR (gF a.Fans a.Mine.Roads.n) a.Fans.n 0 with
    | some z =>
      obtain ⟨j, _, _, h3, _⟩ := yV hf
      show DT.get (DT.leaf z) = _
      dsimp only
      rw [if_pos (hne j z h3)]; rfl
    | none =>
      show DT.get (DT.bind _ _) = _
      dsimp only
      rw [if_neg (show ¬ (0 : Int) ≠ 0 from fun h => h rfl), get_bind (ab4 _)]
      by_cases h2 : zM a.Doors = 0
      · obtain ⟨d1, d2⟩ := ac7 h2
        rw [aD (by simp [h2]), if_neg (not_not_intro h2)]
        have e2 : D5 a.Mine.Places a.Mine.Roads a.Fans a.Doors 0 = some (sumO (aR (gDr a.Doors a.Mine.Roads.n) a.Doors.n 0)) := by
          rw [Tp, ← jV]
          refine aX (step := fun v => lQ a.Mine.Places a.Mine.Roads a.Fans a.Doors v) (gDr a.Doors a.Mine.Roads.n) (fun i hi => ?_) ?_ a.Doors.n 0 (Nat.zero_add _)
          · unfold lQ gDr
            have := UD (d2 i hi)
            rw [aA (dlt hi), aA (dix hi), aQ (by omega), aF]
            by_cases a2 : 0 ≤ (a.Doors.f i).Road ∧ (a.Doors.f i).Road ≤ (a.Mine.Roads.n : Int) - 1
            · rw [aD (decide_eq_false (by omega)), if_pos a2]; rfl
            · rw [aA (decide_eq_true (by omega)), if_neg a2]; rfl
          · unfold lQ
            rw [aD (dge (Nat.le_refl _))]
            rfl
        rw [aI e2]
        cases aR (gDr a.Doors a.Mine.Roads.n) a.Doors.n 0 <;> rfl
      · rw [aA (by simp [h2]), if_pos h2]; rfl
  · rw [aA (by simp [h0]), if_pos h0]; rfl
def gSf (s : Sq Int) (i : Nat) : Option Unit := if -1 ≤ s.f i ∧ s.f i ≤ 2 then none else some ()
def gSd (s : Sq Int) (D : Sq aC) (i : Nat) : Option Unit := if -1 ≤ s.f i ∧ s.f i ≤ ((D.f i).Rests.n : Int) - 1 then none else some ()
open Classical in
def aZ (a : SAir) (s : au) : Bool := if airE a = 0 ∧ s.Fans.n = a.Fans.n ∧ s.Doors.n = a.Doors.n ∧ aR (gSf s.Fans) s.Fans.n 0 = none ∧ aR (gSd s.Doors a.Doors) s.Doors.n 0 = none then true else false
theorem QD {l : Sq aC} {i : Nat} (h : DC l i = 0) : 2 ≤ (l.f i).Rests.n ∧ (l.f i).Rests.n ≤ 6 := by
  unfold DC at h
  by_cases h0 : (l.f i).Road < 0
  · rw [if_pos h0] at h; cases h
  rw [if_neg h0] at h
  by_cases h1 : (l.f i).Rests.n < 2
  · rw [if_pos h1] at h; cases h
  rw [if_neg h1] at h
  by_cases h2 : (l.f i).Rests.n > 6
  · rw [if_pos h2] at h; cases h
  omega
theorem NT {a : SAir} (h : airE a = 0) : SE a.Mine = 0 ∧ Mi a.Fans a.Mine.Roads.n = 0 ∧ zN a.Doors a.Mine.Roads.n = 0 := by
  unfold airE at h
  by_cases h0 : SE a.Mine = 0
  · rw [if_neg (not_not_intro h0)] at h
    by_cases h1 : Mi a.Fans a.Mine.Roads.n = 0
    · rw [if_neg (not_not_intro h1)] at h; exact ⟨h0, h1, h⟩
    · rw [if_pos h1] at h; exact absurd h h1
  · rw [if_pos h0] at h; exact absurd h h0
theorem NV {D : Sq aC} {nr : Nat} (h : zN D nr = 0) : D.n ≤ 16 ∧ (∀ i, i < D.n → DC D i = 0) ∧ ∀ i, i < D.n → 0 ≤ (D.f i).Road ∧ (D.f i).Road ≤ (nr : Int) - 1 := by
  unfold zN at h
  by_cases h0 : zM D = 0
  · rw [if_neg (not_not_intro h0)] at h
    obtain ⟨h1, h2⟩ := ac7 h0
    refine ⟨h1, h2, fun i hi => ?_⟩
    cases hf : aR (gDr D nr) D.n 0 with
    | some u => rw [hf] at h; cases h
    | none =>
      have := jf hf i (by omega) (by omega)
      unfold gDr at this
      split at this
      · assumption
      · cases this
  · rw [if_pos h0] at h; exact absurd h h0
theorem abA {F : Sq SFan} {nr : Nat} (h : Mi F nr = 0) : F.n ≤ 8 ∧ (∀ i, i < F.n → fanE (F.f i) = 0) ∧ ∀ i, i < F.n → 0 ≤ (F.f i).Road ∧ (F.f i).Road ≤ (nr : Int) - 1 := by
  unfold Mi at h
  by_cases h0 : F.n > 8
  · rw [if_pos h0] at h; cases h
  rw [if_neg h0] at h
  have hne : ∀ i z, gF F nr i = some z → z ≠ 0 := by
    intro i z h
    unfold gF at h
    split at h
    · rename_i hq; injection h with h; subst h; exact hq
    · split at h
      · cases h
      · injection h with h; omega
  have hn := NW hne h
  have all : ∀ i, i < F.n → fanE (F.f i) = 0 ∧ 0 ≤ (F.f i).Road ∧ (F.f i).Road ≤ (nr : Int) - 1 := by
    intro i hi
    have := jf hn i (by omega) (by omega)
    unfold gF at this
    by_cases a1 : fanE (F.f i) = 0
    · rw [if_neg (not_not_intro a1)] at this
      split at this
      · exact ⟨a1, by assumption⟩
      · cases this
    · rw [if_pos a1] at this; cases this
  exact ⟨by omega, fun i hi => (all i hi).1, fun i hi => (all i hi).2⟩
theorem WC (a : SAir) (s : au) (h : airE a = 0) : FT a s = some (aZ a s) := by
  obtain ⟨_, h2, h3⟩ := NT h
  have hF := (abA h2).1
  obtain ⟨hD, hDe, _⟩ := NV h3
  rw [Us]; unfold BI aZ
  by_cases a1 : s.Fans.n = a.Fans.n
  · rw [aD (by simp [a1])]
    by_cases a2 : s.Doors.n = a.Doors.n
    · rw [aD (by simp [a2])]
      have e1 : Az s.Fans a.Mine.Places a.Mine.Roads a.Fans a.Doors s.Doors 0 = some (sumO (aR (gSf s.Fans) s.Fans.n 0)) := by
        rw [OC, ← jV]
        refine aX (step := fun v => jy s.Fans a.Mine.Places a.Mine.Roads a.Fans a.Doors s.Doors v) (gSf s.Fans) (fun i hi => ?_) ?_ s.Fans.n 0 (Nat.zero_add _)
        · unfold jy gSf
          rw [aA (dlt hi), aA (dix hi), aQ (by omega), aF, get_bind (Dx _ _ _)]
          by_cases b1 : -1 ≤ s.Fans.f i ∧ s.Fans.f i ≤ 2
          · rw [aD (by simp only [decide_eq_true b1, Bool.not_true]), if_pos b1]; rfl
          · rw [aA (by simp only [decide_eq_false b1, Bool.not_false]), if_neg b1]; rfl
        · unfold jy
          rw [aD (dge (Nat.le_refl _))]
          rfl
      have e2 : zH s.Doors a.Mine.Places a.Mine.Roads a.Fans a.Doors 0 = some (sumO (aR (gSd s.Doors a.Doors) s.Doors.n 0)) := by
        rw [LW, ← jV]
        refine aX (step := fun v => jc s.Doors a.Mine.Places a.Mine.Roads a.Fans a.Doors v) (gSd s.Doors a.Doors) (fun i hi => ?_) ?_ s.Doors.n 0 (Nat.zero_add _)
        · unfold jc gSd
          have hr := QD (hDe i (by omega))
          rw [aA (dlt hi), aA (dix hi), aA (dix (by omega)), aQ (by omega), aF, aO (by omega) (by omega), get_bind (Dx _ _ _)]
          by_cases b1 : -1 ≤ s.Doors.f i ∧ s.Doors.f i ≤ ((a.Doors.f i).Rests.n : Int) - 1
          · rw [aD (by simp only [decide_eq_true b1, Bool.not_true]), if_pos b1]; rfl
          · rw [aA (by simp only [decide_eq_false b1, Bool.not_false]), if_neg b1]; rfl
        · unfold jc
          rw [aD (dge (Nat.le_refl _))]
          rfl
      rw [aI e1]
      cases aR (gSf s.Fans) s.Fans.n 0 with
      | some u => rw [if_neg (by simp)]; rfl
      | none =>
        show DT.get (DT.sum _ _ _) = _
        rw [aI e2]
        cases aR (gSd s.Doors a.Doors) s.Doors.n 0 with
        | some u => rw [if_neg (by simp)]; rfl
        | none => rw [if_pos ⟨h, a1, a2, rfl, rfl⟩]; rfl
    · rw [aA (by simp; omega), if_neg (fun h => a2 h.2.2.1)]; rfl
  · rw [aA (by simp; omega), if_neg (fun h => a1 h.2.1)]; rfl
theorem FR (a : SAir) (s : au) : Br a s = some (aZ a s) := by
  rw [Yh]; unfold FQ
  rw [get_bind (Px a)]
  by_cases h : airE a = 0
  · rw [aA (by simp [h]), get_bind (WC a s h)]; rfl
  · rw [aD (by simp [h])]; unfold aZ; rw [if_neg (fun q => h q.1)]; rfl
theorem ab6 (a : SAir) (s : au) : Rj a s = some (aZ a s) := by
  rw [aan]; unfold JN
  rw [get_bind (Tq a)]
  by_cases h : airE a = 0
  · rw [aD (by simp [h])]
    obtain ⟨_, h2, h3⟩ := NT h
    have hF := (abA h2).1
    obtain ⟨hD, hDe, _⟩ := NV h3
    unfold aZ
    by_cases a1 : s.Fans.n = a.Fans.n
    · rw [aD (by simp [a1])]
      by_cases a2 : s.Doors.n = a.Doors.n
      · rw [aD (by simp [a2])]
        have e1 : Gn a.Mine.Places a.Mine.Roads a.Fans a.Doors s.Fans s.Doors 0 = some (sumO (aR (gSf s.Fans) s.Fans.n 0)) := by
          rw [Vk, ← jV]
          refine aX (step := fun v => nE a.Mine.Places a.Mine.Roads a.Fans a.Doors s.Fans s.Doors v) (gSf s.Fans) (fun i hi => ?_) ?_ s.Fans.n 0 (Nat.zero_add _)
          · unfold nE gSf
            rw [aA (dlt hi), aA (dix hi), aQ (by omega), aF]
            by_cases b1 : s.Fans.f i < -1
            · rw [aA (decide_eq_true b1), if_neg (by omega)]; rfl
            rw [aD (decide_eq_false b1), aA (dix hi)]
            by_cases b2 : s.Fans.f i > 2
            · rw [aA (decide_eq_true b2), if_neg (by omega)]; rfl
            · rw [aD (decide_eq_false b2), if_pos (by omega)]; rfl
          · unfold nE
            rw [aD (dge (Nat.le_refl _))]
            rfl
        have e2 : Gp a.Mine.Places a.Mine.Roads a.Fans a.Doors s.Fans s.Doors 0 = some (sumO (aR (gSd s.Doors a.Doors) s.Doors.n 0)) := by
          rw [Vl, ← jV]
          refine aX (step := fun v => nG a.Mine.Places a.Mine.Roads a.Fans a.Doors s.Fans s.Doors v) (gSd s.Doors a.Doors) (fun i hi => ?_) ?_ s.Doors.n 0 (Nat.zero_add _)
          · unfold nG gSd
            rw [aA (dlt hi), aA (dix hi), aQ (by omega), aF]
            by_cases b1 : s.Doors.f i < -1
            · rw [aA (decide_eq_true b1), if_neg (by omega)]; rfl
            rw [aD (decide_eq_false b1), aA (dix hi), aA (dix (by omega))]
            by_cases b2 : s.Doors.f i ≥ ((a.Doors.f i).Rests.n : Int)
            · rw [aA (decide_eq_true b2), if_neg (by omega)]; rfl
            · rw [aD (decide_eq_false b2), if_pos (by omega)]; rfl
          · unfold nG
            rw [aD (dge (Nat.le_refl _))]
            rfl
        rw [aI e1]
        cases aR (gSf s.Fans) s.Fans.n 0 with
        | some u => rw [if_neg (by simp)]; rfl
        | none =>
          show DT.get (DT.sum _ _ _) = _
          rw [aI e2]
          cases aR (gSd s.Doors a.Doors) s.Doors.n 0 with
          | some u => rw [if_neg (by simp)]; rfl
          | none => rw [if_pos ⟨h, a1, a2, rfl, rfl⟩]; rfl
      · rw [aA (by simp; omega), if_neg (fun h => a2 h.2.2.1)]; rfl
    · rw [aA (by simp; omega), if_neg (fun h => a1 h.2.1)]; rfl
  · rw [aA (by simp [h])]; unfold aZ; rw [if_neg (fun q => h q.1)]; rfl
end
end Go.Proofs.YtmfiagdelnddkaaGreat.Ab
