/- A part of the proof, what is needed of it. -/
import Derived.Test.YtimkpfnbkclclaaGreatPl05
import Derived.Test.YtimkpfnbkclclaaGreatPl07
namespace Go.Proofs.YtimkpfnbkclclaaGreat.Ab
noncomputable section
open Go
theorem ajI (n lo hi : Int) : Es n lo hi = some (decide (lo ≤ n ∧ n ≤ hi)) := by
  rw [ahs]; unfold WS; simp only [DT.get_ite, DT.get_leaf]; split <;> simp_all <;> omega
theorem ajQ (n lo hi : Int) : RA n lo hi = some (decide (lo ≤ n ∧ n ≤ hi)) := by
  rw [ahY]; unfold Y1; simp only [DT.get_ite, DT.get_leaf]; split <;> simp_all <;> omega
theorem ajs (n lo hi : Int) : IQ n lo hi = some (decide (lo ≤ n ∧ n ≤ hi)) := by
  rw [agh]; unfold Qa; simp only [DT.get_ite, DT.get_leaf]; split <;> simp_all <;> omega
theorem amw (s : qB) (lo hi : Int) : Yj s lo hi = some (decide (lo ≤ s.Low ∧ s.Low ≤ s.High ∧ s.High ≤ hi)) := by
  rw [ah5]; unfold Zd; simp only [DT.get_ite, DT.get_leaf]; split
  · split <;> simp_all <;> omega
  · simp_all; omega
theorem amT (p q : qH) : adU p q = some (decide (p.Flow < q.Flow ∧ q.Pressure ≤ p.Pressure)) := by
  rw [aix]; unfold aaS; simp only [DT.get_ite, DT.get_leaf]; split <;> simp_all <;> omega
theorem alJ (n k : Int) : ac7 n k = some (decide (0 ≤ k ∧ k < n)) := by
  rw [aiF]; unfold acB; simp only [DT.get_ite, DT.get_leaf]; split <;> simp_all <;> omega
theorem akM (r : Int) : Qf r = some (decide (¬ (0 ≤ r ∧ r ≤ 262144))) := by
  rw [ae0]; unfold Mj; simp only [DT.get_ite, DT.get_leaf]
  split <;> simp_all
def akQ (r : qC) (p : Int) : Int :=
  if ¬ (0 ≤ r.From ∧ r.From ≤ p - 1) then 4 else if ¬ (0 ≤ r.To ∧ r.To ≤ p - 1) then 4 else if r.From = r.To then 4
  else if ¬ (1 ≤ r.Length ∧ r.Length ≤ 100000) then 1 else if ¬ (1 ≤ r.Area ∧ r.Area ≤ 1000) then 1
  else if ¬ (1 ≤ r.Rest.Low ∧ r.Rest.Low ≤ r.Rest.High ∧ r.Rest.High ≤ 262144) then 1
  else if ¬ (-2199023255552 ≤ r.Lift.Low ∧ r.Lift.Low ≤ r.Lift.High ∧ r.Lift.High ≤ 2199023255552) then 1 else 0
theorem ak7 (r : qC) (p : Int) (h0 : 0 ≤ p) (h1 : p ≤ 1000) : TP r p = some (akQ r p) := by
  rw [afG]; unfold Oy akQ
  rw [pJ (by omega) (by omega)]
  simp only [ajI, amw, DT.get_some, DT.get_ite, DT.get_leaf, Bool.not_eq_true', decide_eq_false_iff_not, beq_iff_eq]
  repeat' (split; · rfl)
  rfl
def gP (P : Sq qA) (i : Nat) : Option Unit := if -10000 ≤ (P.f i).Height ∧ (P.f i).Height ≤ 10000 then none else some ()
def gR (np : Nat) (R : Sq qC) (i : Nat) : Option Int := if akQ (R.f i) np = 0 then none else some (akQ (R.f i) np)
def sumO {B : Type} : Option B → Unit ⊕ B
  | some b => .inr b
  | none => .inl ()
theorem aiX {B : Type} (o : Option B) : (match o with | some b => (.inr b : Unit ⊕ B) | none => .inl ()) = sumO o := by cases o <;> rfl
theorem alr (P : Sq qA) (R : Sq qC) (h : P.n ≤ 64) : WG P R 0 = some (sumO (bn (gP P) P.n 0)) := by
  rw [agp, ← aiX]
  refine oM (step := fun v => KM P R v) (gP P) (fun i hi => ?_) ?_ P.n 0 (Nat.zero_add _)
  · unfold KM gP
    rw [qo (dlt hi), qo (dix hi), qc (by omega), pI]
    simp only [ajI, DT.get_some, DT.get_ite, DT.get_leaf, Bool.not_eq_true', decide_eq_false_iff_not]
    split <;> simp_all
  · unfold KM
    rw [qm (dge (Nat.le_refl _))]
    rfl
theorem ak6 (P : Sq qA) (R : Sq qC) (h : P.n ≤ 64) (h2 : R.n ≤ 128) : TH R P 0 = some (sumO (bn (gR P.n R) R.n 0)) := by
  rw [afE, ← aiX]
  refine oM (step := fun v => Jz R P v) (gR P.n R) (fun i hi => ?_) ?_ R.n 0 (Nat.zero_add _)
  · unfold Jz gR
    rw [qo (dlt hi), qo (dix hi), qc (by omega), pI, ak7 _ _ (by omega) (by omega)]
    simp only [DT.get_some, DT.get_ite, DT.get_leaf, bne_iff_ne]
    by_cases hq : akQ (R.f i) P.n = 0
    · rw [if_neg (by simp [hq]), if_pos hq]
    · rw [if_pos hq, if_neg hq]
  · unfold Jz
    rw [qm (dge (Nat.le_refl _))]
    rfl
def akt (m : qI) : Int :=
  if m.Places.n > 64 then 2 else if m.Roads.n > 128 then 2 else match bn (gP m.Places) m.Places.n 0 with
    | some _ => 1
    | none => match bn (gR m.Places.n m.Roads) m.Roads.n 0 with
      | some e => e
      | none => 0
theorem akU (m : qI) : Yf m = some (akt m) := by
  rw [ah0]; unfold Y5 akt
  by_cases h1 : m.Places.n > 64
  · rw [qo (decide_eq_true (by omega)), if_pos h1]; rfl
  rw [qm (decide_eq_false (by omega)), if_neg h1]
  by_cases h2 : m.Roads.n > 128
  · rw [qo (decide_eq_true (by omega)), if_pos h2]; rfl
  rw [qm (decide_eq_false (by omega)), if_neg h2, pV (alr _ _ (by omega))]
  cases bn (gP m.Places) m.Places.n 0 with
  | some _ => rfl
  | none =>
    show DT.get (DT.sum _ _ _) = _
    rw [pV (ak6 _ _ (by omega) (by omega))]
    cases bn (gR m.Places.n m.Roads) m.Roads.n 0 <;> rfl
def gC (c : Sq qH) (i : Nat) : Option Int :=
  if ¬ (-1048576 ≤ (c.f i).Flow ∧ (c.f i).Flow ≤ 1048576) then some 1 else if ¬ (0 ≤ (c.f i).Pressure ∧ (c.f i).Pressure ≤ 2199023255552) then some 1
  else if 0 < i ∧ ¬ ((c.f (i - 1)).Flow < (c.f i).Flow ∧ (c.f i).Pressure ≤ (c.f (i - 1)).Pressure) then some 14 else none
def fanE (f : SFan) : Int := if f.Road < 0 then 4 else if f.Curve.n = 0 then 2 else if f.Curve.n > 8 then 2 else match bn (gC f.Curve) f.Curve.n 0 with
  | some e => e
  | none => 0
theorem alf {i : Nat} (h0 : 0 < i) (h : i ≤ 1000000) : wr ((i : Int) - 1) = ((i - 1 : Nat) : Int) := by rw [pJ (by omega) (by omega)]; omega
theorem alC (c : Sq qH) (a : Int) (b d : Bool) (h : c.n ≤ 8) : Y0 c a b d 0 = some (sumO (bn (gC c) c.n 0)) := by
  rw [agV, ← aiX]
  refine oM (step := fun v => Ml c a b d v) (gC c) (fun i hi => ?_) ?_ c.n 0 (Nat.zero_add _)
  · unfold Ml gC
    rw [qo (dlt hi), qo (dix hi), qc (by omega), pI]
    rw [get_bind (ajQ _ _ _)]
    by_cases a1 : -1048576 ≤ (c.f i).Flow ∧ (c.f i).Flow ≤ 1048576
    · rw [qm (by simp [a1]), if_neg (not_not_intro a1), get_bind (ajQ _ _ _)]
      by_cases a2 : 0 ≤ (c.f i).Pressure ∧ (c.f i).Pressure ≤ 2199023255552
      · rw [qm (by simp [a2]), if_neg (not_not_intro a2)]
        by_cases a3 : 0 < i
        · rw [qo (decide_eq_true (by omega)), alf a3 (by omega), qo (dix (by omega)), pI, get_bind (amT _ _)]
          by_cases a4 : (c.f (i - 1)).Flow < (c.f i).Flow ∧ (c.f i).Pressure ≤ (c.f (i - 1)).Pressure
          · rw [qm (by simp [a4]), if_neg (fun h => h.2 a4)]; rfl
          · rw [qo (by simp only [decide_eq_false a4, Bool.not_false]), if_pos ⟨a3, a4⟩]; rfl
        · rw [qm (decide_eq_false (by omega)), if_neg (fun h => a3 h.1)]; rfl
      · rw [qo (by simp only [decide_eq_false a2, Bool.not_false]), if_pos a2]; rfl
    · rw [qo (by simp only [decide_eq_false a1, Bool.not_false]), if_pos a1]; rfl
  · unfold Ml
    rw [qm (dge (Nat.le_refl _))]
    rfl
theorem aln (f : SFan) : aaM f = some (fanE f) := by
  rw [aiw]; unfold aaN fanE
  by_cases h0 : f.Road < 0
  · rw [qo (decide_eq_true h0), if_pos h0]; rfl
  rw [qm (decide_eq_false h0), if_neg h0]
  by_cases h1 : f.Curve.n = 0
  · rw [qo (by simp [h1]), if_pos h1]; rfl
  rw [qm (by simp [h1]), if_neg h1]
  by_cases h2 : f.Curve.n > 8
  · rw [qo (decide_eq_true (by omega)), if_pos h2]; rfl
  rw [qm (decide_eq_false (by omega)), if_neg h2, pV (alC _ _ _ _ (by omega))]
  cases bn (gC f.Curve) f.Curve.n 0 <;> rfl
def gO (r : Sq Int) (i : Nat) : Option Unit := if 0 ≤ r.f i ∧ r.f i ≤ 262144 then none else some ()
def gD (r : Sq Int) (i : Nat) : Option Unit := if 0 < i ∧ r.f i ≥ r.f (i - 1) then some () else none
def ajd (l : Sq qD) (i : Nat) : Prop := (l.f i).Other = -1 ∨ ((l.f i).Other ≠ i ∧ 0 ≤ (l.f i).Other ∧ (l.f i).Other < l.n ∧ (l.f (l.f i).Other.toNat).Other = i)
open Classical in
def ajt (l : Sq qD) (i : Nat) : Int := if (l.f i).Road < 0 then 4 else if (l.f i).Rests.n < 2 then 2 else if (l.f i).Rests.n > 6 then 2
  else match bn (gO (l.f i).Rests) (l.f i).Rests.n 0 with
    | some _ => 1
    | none => match bn (gD (l.f i).Rests) (l.f i).Rests.n 0 with
      | some _ => 15
      | none => if ajd l i then 0 else 15
def gIx (r : Sq Int) (i : Nat) : Option Int := if 0 ≤ r.f i ∧ r.f i ≤ 262144 then none else some (i : Int)
theorem apR (r : Sq Int) : ∀ k i, (bn (gIx r) k i).isSome = (bn (gO r) k i).isSome ∧ ∀ z, bn (gIx r) k i = some z → 0 ≤ z := by
  intro k
  induction k with
  | zero => intro i; exact ⟨rfl, fun z h => by cases h⟩
  | succ k ih =>
    intro i
    unfold bn gIx gO
    by_cases h : 0 ≤ r.f i ∧ r.f i ≤ 262144
    · rw [if_pos h, if_pos h]; exact ih (i + 1)
    · rw [if_neg h, if_neg h]; exact ⟨rfl, fun z hz => by injection hz with hz; omega⟩
theorem ajW (r : Sq Int) (h : r.n ≤ 6) : J9 r 0 = some (sumO (bn (gIx r) r.n 0)) := by
  rw [adD, ← aiX]
  refine oM (step := fun v => EL r v) (gIx r) (fun i hi => ?_) ?_ r.n 0 (Nat.zero_add _)
  · unfold EL gIx
    rw [qo (dlt hi), qo (dix hi), qc (by omega), pI]
    rw [get_bind (akM _)]
    by_cases a1 : 0 ≤ r.f i ∧ r.f i ≤ 262144
    · rw [qm (decide_eq_false (not_not_intro a1)), if_pos a1]; rfl
    · rw [qo (decide_eq_true a1), if_neg a1]; rfl
  · unfold EL
    rw [qm (dge (Nat.le_refl _))]
    rfl
theorem ajV (r : Sq Int) (h : r.n ≤ 6) : slices_ContainsFunc r = some (bn (gO r) r.n 0).isSome := by
  rw [adC]; unfold Hl
  have e : slices_IndexFunc r = some (match bn (gIx r) r.n 0 with | some z => z | none => -1) := by
    rw [aeP]; unfold K8
    rw [pV (ajW r h)]
    cases bn (gIx r) r.n 0 <;> rfl
  rw [get_bind e, DT.get_leaf]
  obtain ⟨h1, h2⟩ := apR r r.n 0
  rw [← h1]
  cases hf : bn (gIx r) r.n 0 with
  | none => rfl
  | some z => exact congrArg some (decide_eq_true (h2 z hf))
theorem alB (r : Sq Int) (h : r.n ≤ 6) : YZ r = some (bn (gD r) r.n 0).isNone := by
  rw [agU]; unfold Tz
  have e : Qd r 0 = some (sumO (bn (gD r) r.n 0)) := by
    rw [aeZ, ← aiX]
    refine oM (step := fun v => Ic r v) (gD r) (fun i hi => ?_) ?_ r.n 0 (Nat.zero_add _)
    · unfold Ic gD
      rw [qo (dlt hi), qc (by omega), pI]
      by_cases a3 : 0 < i
      · rw [qo (decide_eq_true (by omega)), alf a3 (by omega), qo (dix hi), qo (dix (by omega)), pI]
        by_cases a4 : r.f i ≥ r.f (i - 1)
        · rw [qo (decide_eq_true a4), if_pos ⟨a3, a4⟩]; rfl
        · rw [qm (decide_eq_false a4), if_neg (fun h => a4 h.2)]; rfl
      · rw [qm (decide_eq_false (by omega)), if_neg (fun h => a3 h.1)]; rfl
    · unfold Ic
      rw [qm (dge (Nat.le_refl _))]
      rfl
  rw [pV e]
  cases bn (gD r) r.n 0 <;> rfl
open Classical in
theorem al1 (l : Sq qD) (i : Nat) (hi : i < l.n) : aaK l i = some (decide (ajd l i)) := by
  rw [ahm]; unfold Ws
  rw [qo (dix hi), pI]
  by_cases a1 : (l.f i).Other = -1
  · rw [qo (by simp [a1]), decide_eq_true (show ajd l i from .inl a1)]; rfl
  rw [qm (by simp [a1])]
  by_cases a2 : (l.f i).Other = i
  · rw [qm (by simp [a2]), decide_eq_false (show ¬ ajd l i from fun h => h.elim a1 fun h => h.1 a2)]; rfl
  rw [qo (by simp [a2]), get_bind (alJ _ _)]
  by_cases a3 : 0 ≤ (l.f i).Other ∧ (l.f i).Other < (l.n : Int)
  · rw [qo (decide_eq_true a3), qo (decide_eq_true a3), DT.get_leaf]
    by_cases a4 : (l.f (l.f i).Other.toNat).Other = i
    · rw [decide_eq_true (show ajd l i from .inr ⟨a2, a3.1, a3.2, a4⟩)]; simp [a4]
    · rw [decide_eq_false (show ¬ ajd l i from fun h => h.elim a1 fun h => a4 h.2.2.2)]; simp [a4]
  · rw [qm (decide_eq_false a3), decide_eq_false (show ¬ ajd l i from fun h => h.elim a1 fun h => a3 ⟨h.2.1, h.2.2.1⟩)]; rfl
theorem ak3 (l : Sq qD) (i : Nat) (hi : i < l.n) : Tx l i = some (ajt l i) := by
  rw [afA]; unfold Ol ajt
  rw [qo (dix hi), pI]
  by_cases a1 : (l.f i).Road < 0
  · rw [qo (decide_eq_true a1), if_pos a1]; rfl
  rw [qm (decide_eq_false a1), if_neg a1]
  by_cases a2 : (l.f i).Rests.n < 2
  · rw [qo (decide_eq_true (by omega)), if_pos a2]; rfl
  rw [qm (decide_eq_false (by omega)), if_neg a2]
  by_cases a3 : (l.f i).Rests.n > 6
  · rw [qo (decide_eq_true (by omega)), if_pos a3]; rfl
  rw [qm (decide_eq_false (by omega)), if_neg a3, get_bind (ajV _ (by omega))]
  cases bn (gO (l.f i).Rests) (l.f i).Rests.n 0 with
  | some _ => rfl
  | none =>
    rw [qm (b := (none : Option Unit).isSome) rfl, get_bind (alB _ (by omega))]
    cases bn (gD (l.f i).Rests) (l.f i).Rests.n 0 with
    | some _ => rfl
    | none =>
      rw [qm (b := !(none : Option Unit).isNone) rfl, get_bind (al1 l i hi)]
      by_cases a4 : ajd l i
      · rw [qm (by simp [a4])]; simp [a4]
      · rw [qo (by simp [a4])]; simp [a4]
def gDo (l : Sq qD) (i : Nat) : Option Int := if ajt l i = 0 then none else some (ajt l i)
def ajh (l : Sq qD) : Int := if l.n > 16 then 2 else match bn (gDo l) l.n 0 with
  | some e => e
  | none => 0
theorem amk (l : Sq qD) : acA l = some (ajh l) := by
  rw [ahX]; unfold YX ajh
  by_cases h0 : l.n > 16
  · rw [qo (decide_eq_true (by omega)), if_pos h0]; rfl
  rw [qm (decide_eq_false (by omega)), if_neg h0]
  have e : Wo l 0 = some (sumO (bn (gDo l) l.n 0)) := by
    rw [agk, ← aiX]
    refine oM (step := fun v => KL l v) (gDo l) (fun i hi => ?_) ?_ l.n 0 (Nat.zero_add _)
    · unfold KL gDo
      rw [qo (dlt hi), qc (by omega), get_bind (ak3 l i hi)]
      by_cases hq : ajt l i = 0
      · rw [qm (by simp [hq]), if_pos hq]; rfl
      · rw [qo (by simp [hq]), if_neg hq]; rfl
    · unfold KL
      rw [qm (dge (Nat.le_refl _))]
      rfl
  rw [pV e]
  cases bn (gDo l) l.n 0 <;> rfl
def gF (F : Sq SFan) (nr : Nat) (i : Nat) : Option Int := if fanE (F.f i) ≠ 0 then some (fanE (F.f i)) else if 0 ≤ (F.f i).Road ∧ (F.f i).Road ≤ (nr : Int) - 1 then none else some 4
def ajR (F : Sq SFan) (nr : Nat) : Int := if F.n > 8 then 2 else match bn (gF F nr) F.n 0 with
  | some e => e
  | none => 0
def gDr (D : Sq qD) (nr : Nat) (i : Nat) : Option Unit := if 0 ≤ (D.f i).Road ∧ (D.f i).Road ≤ (nr : Int) - 1 then none else some ()
def aji (D : Sq qD) (nr : Nat) : Int := if ajh D ≠ 0 then ajh D else match bn (gDr D nr) D.n 0 with
  | some _ => 4
  | none => 0
def airE (a : SAir) : Int := if akt a.Mine ≠ 0 then akt a.Mine else if ajR a.Fans a.Mine.Roads.n ≠ 0 then ajR a.Fans a.Mine.Roads.n else aji a.Doors a.Mine.Roads.n
theorem aj2 {g : Nat → Option Int} (hg : ∀ i z, g i = some z → z ≠ 0) {n i : Nat} (h : (match bn g n i with | some e => e | none => 0) = 0) : bn g n i = none := by
  cases hf : bn g n i with
  | none => rfl
  | some z =>
    rw [hf] at h
    obtain ⟨j, _, _, h3, _⟩ := om hf
    exact absurd h (hg j z h3)
structure aja (m : qI) : Prop where
  np : m.Places.n ≤ 64
  nr : m.Roads.n ≤ 128
  h : ∀ i, i < m.Places.n → -10000 ≤ (m.Places.f i).Height ∧ (m.Places.f i).Height ≤ 10000
  r : ∀ i, i < m.Roads.n → akQ (m.Roads.f i) m.Places.n = 0
theorem aqd {np : Nat} {R : Sq qC} : ∀ i z, gR np R i = some z → z ≠ 0 := by
  intro i z h
  unfold gR at h
  split at h
  · cases h
  · rename_i hq; injection h with h; subst h; exact hq
theorem ajH (m : qI) : akt m = 0 ↔ aja m := by
  unfold akt
  by_cases h1 : m.Places.n > 64
  · rw [if_pos h1]; exact ⟨fun h => by omega, fun h => absurd h.np (by omega)⟩
  rw [if_neg h1]
  by_cases h2 : m.Roads.n > 128
  · rw [if_pos h2]; exact ⟨fun h => by omega, fun h => absurd h.nr (by omega)⟩
  rw [if_neg h2]
  cases hp : bn (gP m.Places) m.Places.n 0 with
  | some u =>
    refine ⟨fun h => (by cases h), fun h => ?_⟩
    obtain ⟨j, _, h4, h5, _⟩ := om hp
    have := h.h j (by omega)
    unfold gP at h5
    rw [if_pos this] at h5
    cases h5
  | none =>
    constructor
    · intro h
      have hr := aj2 aqd h
      refine ⟨by omega, by omega, fun i hi => ?_, fun i hi => ?_⟩
      · have := oh hp i (by omega) (by omega)
        unfold gP at this
        split at this
        · assumption
        · cases this
      · have := oh hr i (by omega) (by omega)
        unfold gR at this
        split at this
        · assumption
        · cases this
    · intro h
      have : bn (gR m.Places.n m.Roads) m.Roads.n 0 = none := oL fun j _ hj => by
        unfold gR
        rw [if_pos (h.r j (by omega))]
      rw [this]
theorem ajm (a : SAir) (k : Int) (h : a.Mine.Roads.n ≤ 128) : Gs a k = some (decide (0 ≤ k ∧ k ≤ (a.Mine.Roads.n : Int) - 1)) := by
  rw [afy]; unfold Og
  rw [pJ (by omega) (by omega), get_bind (ajs _ _ _)]
  rfl
theorem akq (a : SAir) (h : a.Mine.Roads.n ≤ 128) : Od a = some (ajR a.Fans a.Mine.Roads.n) := by
  rw [aeE]; unfold KH ajR
  by_cases h0 : a.Fans.n > 8
  · rw [qo (decide_eq_true (by omega)), if_pos h0]; rfl
  rw [qm (decide_eq_false (by omega)), if_neg h0]
  have e : Jo a.Fans a.Mine.Places a.Mine.Roads a.Doors 0 = some (sumO (bn (gF a.Fans a.Mine.Roads.n) a.Fans.n 0)) := by
    rw [ady, ← aiX]
    refine oM (step := fun v => EA a.Fans a.Mine.Places a.Mine.Roads a.Doors v) (gF a.Fans a.Mine.Roads.n) (fun i hi => ?_) ?_ a.Fans.n 0 (Nat.zero_add _)
    · unfold EA gF
      rw [qo (dlt hi), qo (dix hi), qc (by omega), pI, get_bind (aln _)]
      by_cases a1 : fanE (a.Fans.f i) = 0
      · rw [qm (by simp [a1]), if_neg (not_not_intro a1), get_bind (ajm _ _ h)]
        by_cases a2 : 0 ≤ (a.Fans.f i).Road ∧ (a.Fans.f i).Road ≤ (a.Mine.Roads.n : Int) - 1
        · rw [qm (by simp only [decide_eq_true a2, Bool.not_true]), if_pos a2]; rfl
        · rw [qo (by simp only [decide_eq_false a2, Bool.not_false]), if_neg a2]; rfl
      · rw [qo (by simp [a1]), if_pos a1]; rfl
    · unfold EA
      rw [qm (dge (Nat.le_refl _))]
      rfl
  rw [pV e]
  cases bn (gF a.Fans a.Mine.Roads.n) a.Fans.n 0 <;> rfl
theorem akf (a : SAir) (h : a.Mine.Roads.n ≤ 128) : Me a = some (aji a.Doors a.Mine.Roads.n) := by
  rw [aek]; unfold Jm aji
  rw [get_bind (amk _)]
  by_cases h0 : ajh a.Doors = 0
  · rw [qm (by simp [h0]), if_neg (not_not_intro h0)]
    have hn : a.Doors.n ≤ 16 := by
      unfold ajh at h0
      split at h0
      · cases h0
      · omega
    have e : Ia a.Doors a.Mine.Places a.Mine.Roads a.Fans 0 = some (sumO (bn (gDr a.Doors a.Mine.Roads.n) a.Doors.n 0)) := by
      rw [ac4, ← aiX]
      refine oM (step := fun v => DU a.Doors a.Mine.Places a.Mine.Roads a.Fans v) (gDr a.Doors a.Mine.Roads.n) (fun i hi => ?_) ?_ a.Doors.n 0 (Nat.zero_add _)
      · unfold DU gDr
        rw [qo (dlt hi), qo (dix hi), qc (by omega), pI, get_bind (ajm _ _ h)]
        by_cases a2 : 0 ≤ (a.Doors.f i).Road ∧ (a.Doors.f i).Road ≤ (a.Mine.Roads.n : Int) - 1
        · rw [qm (by simp only [decide_eq_true a2, Bool.not_true]), if_pos a2]; rfl
        · rw [qo (by simp only [decide_eq_false a2, Bool.not_false]), if_neg a2]; rfl
      · unfold DU
        rw [qm (dge (Nat.le_refl _))]
        rfl
    rw [pV e]
    cases bn (gDr a.Doors a.Mine.Roads.n) a.Doors.n 0 <;> rfl
  · rw [qo (by simp [h0]), if_pos h0]; rfl
theorem aj9 (a : SAir) : KC a = some (airE a) := by
  rw [agP]; unfold Ti airE
  rw [get_bind (akU _)]
  by_cases h0 : akt a.Mine = 0
  · have hm := (ajH _).1 h0
    rw [qm (by simp [h0]), if_neg (not_not_intro h0), get_bind (akq a hm.nr)]
    by_cases h1 : ajR a.Fans a.Mine.Roads.n = 0
    · rw [qm (by simp [h1]), if_neg (not_not_intro h1), get_bind (akf a hm.nr)]; rfl
    · rw [qo (by simp [h1]), if_pos h1]; rfl
  · rw [qo (by simp [h0]), if_pos h0]; rfl
theorem apQ {l : Sq qD} : ∀ i z, gDo l i = some z → z ≠ 0 := by
  intro i z h
  unfold gDo at h
  split at h
  · cases h
  · rename_i hq; injection h with h; subst h; exact hq
theorem aml {l : Sq qD} (h : ajh l = 0) : l.n ≤ 16 ∧ ∀ i, i < l.n → ajt l i = 0 := by
  unfold ajh at h
  by_cases h0 : l.n > 16
  · rw [if_pos h0] at h; cases h
  rw [if_neg h0] at h
  refine ⟨by omega, fun i hi => ?_⟩
  have := oh (aj2 apQ h) i (by omega) (by omega)
  unfold gDo at this
  split at this
  · assumption
  · cases this
theorem akL {l : Sq qD} {i : Nat} (h : ajt l i = 0) : 0 ≤ (l.f i).Road := by
  unfold ajt at h
  by_cases h0 : (l.f i).Road < 0
  · rw [if_pos h0] at h; cases h
  · omega
theorem amm {f : SFan} (h : fanE f = 0) : 0 ≤ f.Road := by
  unfold fanE at h
  by_cases h0 : f.Road < 0
  · rw [if_pos h0] at h; cases h
  · omega
def gSf (s : Sq Int) (i : Nat) : Option Unit := if -1 ≤ s.f i ∧ s.f i ≤ 2 then none else some ()
def gSd (s : Sq Int) (D : Sq qD) (i : Nat) : Option Unit := if -1 ≤ s.f i ∧ s.f i ≤ ((D.f i).Rests.n : Int) - 1 then none else some ()
open Classical in
def aiR (a : SAir) (s : qz) : Bool := if airE a = 0 ∧ s.Fans.n = a.Fans.n ∧ s.Doors.n = a.Doors.n ∧ bn (gSf s.Fans) s.Fans.n 0 = none ∧ bn (gSd s.Doors a.Doors) s.Doors.n 0 = none then true else false
theorem akg {l : Sq qD} {i : Nat} (h : ajt l i = 0) : 2 ≤ (l.f i).Rests.n ∧ (l.f i).Rests.n ≤ 6 := by
  unfold ajt at h
  by_cases h0 : (l.f i).Road < 0
  · rw [if_pos h0] at h; cases h
  rw [if_neg h0] at h
  by_cases h1 : (l.f i).Rests.n < 2
  · rw [if_pos h1] at h; cases h
  rw [if_neg h1] at h
  by_cases h2 : (l.f i).Rests.n > 6
  · rw [if_pos h2] at h; cases h
  omega
theorem ajZ {a : SAir} (h : airE a = 0) : akt a.Mine = 0 ∧ ajR a.Fans a.Mine.Roads.n = 0 ∧ aji a.Doors a.Mine.Roads.n = 0 := by
  unfold airE at h
  by_cases h0 : akt a.Mine = 0
  · rw [if_neg (not_not_intro h0)] at h
    by_cases h1 : ajR a.Fans a.Mine.Roads.n = 0
    · rw [if_neg (not_not_intro h1)] at h; exact ⟨h0, h1, h⟩
    · rw [if_pos h1] at h; exact absurd h h1
  · rw [if_pos h0] at h; exact absurd h h0
theorem aj0 {D : Sq qD} {nr : Nat} (h : aji D nr = 0) : D.n ≤ 16 ∧ (∀ i, i < D.n → ajt D i = 0) ∧ ∀ i, i < D.n → 0 ≤ (D.f i).Road ∧ (D.f i).Road ≤ (nr : Int) - 1 := by
  unfold aji at h
  by_cases h0 : ajh D = 0
  · rw [if_neg (not_not_intro h0)] at h
    obtain ⟨h1, h2⟩ := aml h0
    refine ⟨h1, h2, fun i hi => ?_⟩
    cases hf : bn (gDr D nr) D.n 0 with
    | some u => rw [hf] at h; cases h
    | none =>
      have := oh hf i (by omega) (by omega)
      unfold gDr at this
      split at this
      · assumption
      · cases this
  · rw [if_pos h0] at h; exact absurd h h0
theorem al3 {F : Sq SFan} {nr : Nat} (h : ajR F nr = 0) : F.n ≤ 8 ∧ (∀ i, i < F.n → fanE (F.f i) = 0) ∧ ∀ i, i < F.n → 0 ≤ (F.f i).Road ∧ (F.f i).Road ≤ (nr : Int) - 1 := by
  unfold ajR at h
  by_cases h0 : F.n > 8
  · rw [if_pos h0] at h; cases h
  rw [if_neg h0] at h
  have hne : ∀ i z, gF F nr i = some z → z ≠ 0 := by
    intro i z h
    unfold gF at h
    split at h
    · rename_i hq; injection h with h; subst h; exact hq
    · split at h
      · cases h
      · injection h with h; omega
  have hn := aj2 hne h
  have all : ∀ i, i < F.n → fanE (F.f i) = 0 ∧ 0 ≤ (F.f i).Road ∧ (F.f i).Road ≤ (nr : Int) - 1 := by
    intro i hi
    have := oh hn i (by omega) (by omega)
    unfold gF at this
    by_cases a1 : fanE (F.f i) = 0
    · rw [if_neg (not_not_intro a1)] at this
      split at this
      · exact ⟨a1, by assumption⟩
      · cases this
    · rw [if_pos a1] at this; cases this
  exact ⟨by omega, fun i hi => (all i hi).1, fun i hi => (all i hi).2⟩
theorem ak1 (a : SAir) (s : qz) (h : airE a = 0) : Tk a s = some (aiR a s) := by
  obtain ⟨_, h2, h3⟩ := ajZ h
  have hF := (al3 h2).1
  obtain ⟨hD, hDe, _⟩ := aj0 h3
  rw [afw]; unfold Oc aiR
  by_cases a1 : s.Fans.n = a.Fans.n
  · rw [qm (by simp [a1])]
    by_cases a2 : s.Doors.n = a.Doors.n
    · rw [qm (by simp [a2])]
      have e1 : Md s.Fans a.Mine.Places a.Mine.Roads a.Fans a.Doors s.Doors 0 = some (sumO (bn (gSf s.Fans) s.Fans.n 0)) := by
        rw [aej, ← aiX]
        refine oM (step := fun v => FN s.Fans a.Mine.Places a.Mine.Roads a.Fans a.Doors s.Doors v) (gSf s.Fans) (fun i hi => ?_) ?_ s.Fans.n 0 (Nat.zero_add _)
        · unfold FN gSf
          rw [qo (dlt hi), qo (dix hi), qc (by omega), pI, get_bind (ajs _ _ _)]
          by_cases b1 : -1 ≤ s.Fans.f i ∧ s.Fans.f i ≤ 2
          · rw [qm (by simp only [decide_eq_true b1, Bool.not_true]), if_pos b1]; rfl
          · rw [qo (by simp only [decide_eq_false b1, Bool.not_false]), if_neg b1]; rfl
        · unfold FN
          rw [qm (dge (Nat.le_refl _))]
          rfl
      have e2 : KG s.Doors a.Mine.Places a.Mine.Roads a.Fans a.Doors 0 = some (sumO (bn (gSd s.Doors a.Doors) s.Doors.n 0)) := by
        rw [adM, ← aiX]
        refine oM (step := fun v => EY s.Doors a.Mine.Places a.Mine.Roads a.Fans a.Doors v) (gSd s.Doors a.Doors) (fun i hi => ?_) ?_ s.Doors.n 0 (Nat.zero_add _)
        · unfold EY gSd
          have hr := akg (hDe i (by omega))
          rw [qo (dlt hi), qo (dix hi), qo (dix (by omega)), qc (by omega), pI, pJ (by omega) (by omega), get_bind (ajs _ _ _)]
          by_cases b1 : -1 ≤ s.Doors.f i ∧ s.Doors.f i ≤ ((a.Doors.f i).Rests.n : Int) - 1
          · rw [qm (by simp only [decide_eq_true b1, Bool.not_true]), if_pos b1]; rfl
          · rw [qo (by simp only [decide_eq_false b1, Bool.not_false]), if_neg b1]; rfl
        · unfold EY
          rw [qm (dge (Nat.le_refl _))]
          rfl
      rw [pV e1]
      cases bn (gSf s.Fans) s.Fans.n 0 with
      | some u => rw [if_neg (by simp)]; rfl
      | none =>
        show DT.get (DT.sum _ _ _) = _
        rw [pV e2]
        cases bn (gSd s.Doors a.Doors) s.Doors.n 0 with
        | some u => rw [if_neg (by simp)]; rfl
        | none => rw [if_pos ⟨h, a1, a2, rfl, rfl⟩]; rfl
    · rw [qo (by simp; omega), if_neg (fun h => a2 h.2.2.1)]; rfl
  · rw [qo (by simp; omega), if_neg (fun h => a1 h.2.1)]; rfl
theorem ajy (a : SAir) (s : qz) : GA a s = some (aiR a s) := by
  rw [agQ]; unfold Tj
  rw [get_bind (aj9 a)]
  by_cases h : airE a = 0
  · rw [qo (by simp [h]), get_bind (ak1 a s h)]; rfl
  · rw [qm (by simp [h])]; unfold aiR; rw [if_neg (fun q => h q.1)]; rfl
end
end Go.Proofs.YtimkpfnbkclclaaGreat.Ab
