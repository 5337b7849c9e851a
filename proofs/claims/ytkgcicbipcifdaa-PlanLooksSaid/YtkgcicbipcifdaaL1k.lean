/- Stage 1: the document's Check. -/
import Derived.Test.YtkgcicbipcifdaaL1r
namespace Go.Proofs.Ytkgcicbipcifdaa.Ab
open Go

theorem ref01_Span_v (s : SSpan) (lo hi : Int) : ref01_Span s lo hi = some (decide (lo ≤ s.Low ∧ s.Low ≤ s.High ∧ s.High ≤ hi)) := by
  rw [ref01_Span_eq]; unfold ref01_Span_t; simp only [DT.get_ite, DT.get_leaf]; split
  · split <;> simp_all <;> omega
  · simp_all; omega
theorem ref01_Check_l4_v (P : Sq SPlace) (R : Sq SRoad) (h : P.n ≤ 64) : ref01_Check_l4 P R 0 = some (sumO (firstN (gP P) P.n 0)) := by
  rw [ref01_Check_l4_eq, ← sumO_eq]
  refine loop_first (step := fun v => ref01_Check_l4_step P R v) (gP P) (fun i hi => ?_) ?_ P.n 0 (Nat.zero_add _)
  · unfold ref01_Check_l4_step gP
    rw [get_t (dlt hi), get_t (dix hi), wr_next (by omega), toNat_nat]
    simp only [DT.get_ite, DT.get_leaf, decide_eq_true_eq]
    split
    · rw [if_neg (by omega)]
    · split
      · rw [if_neg (by omega)]
      · rw [if_pos (by omega)]
  · unfold ref01_Check_l4_step
    rw [get_f (dge (Nat.le_refl _))]
    rfl
theorem ref01_Check_l10_v (P : Sq SPlace) (R : Sq SRoad) (_ : P.n ≤ 64) (h2 : R.n ≤ 128) : ref01_Check_l10 P R 0 = some (sumO (firstN (gR P.n R) R.n 0)) := by
  rw [ref01_Check_l10_eq, ← sumO_eq]
  refine loop_first (step := fun v => ref01_Check_l10_step P R v) (gR P.n R) (fun i hi => ?_) ?_ R.n 0 (Nat.zero_add _)
  · unfold ref01_Check_l10_step gR
    rw [get_t (dlt hi), get_t (dix hi), wr_next (by omega), toNat_nat]
    simp only [ref01_Span_v, DT.get_some, DT.get_ite, DT.get_leaf, decide_eq_true_eq, Bool.not_eq_true', decide_eq_false_iff_not, beq_iff_eq]
    generalize R.f i = r
    unfold roadE
    by_cases a1 : r.From < 0
    · rw [if_pos a1, if_pos (show ¬ (0 ≤ r.From ∧ r.From ≤ (P.n : Int) - 1) by omega)]; rfl
    rw [if_neg a1]
    by_cases a2 : r.From ≥ (P.n : Int)
    · rw [if_pos a2, if_pos (show ¬ (0 ≤ r.From ∧ r.From ≤ (P.n : Int) - 1) by omega)]; rfl
    rw [if_neg a2, if_neg (show ¬ ¬ (0 ≤ r.From ∧ r.From ≤ (P.n : Int) - 1) by omega)]
    by_cases a3 : r.To < 0
    · rw [if_pos a3, if_pos (show ¬ (0 ≤ r.To ∧ r.To ≤ (P.n : Int) - 1) by omega)]; rfl
    rw [if_neg a3]
    by_cases a4 : r.To ≥ (P.n : Int)
    · rw [if_pos a4, if_pos (show ¬ (0 ≤ r.To ∧ r.To ≤ (P.n : Int) - 1) by omega)]; rfl
    rw [if_neg a4, if_neg (show ¬ ¬ (0 ≤ r.To ∧ r.To ≤ (P.n : Int) - 1) by omega)]
    by_cases a5 : r.From = r.To
    · rw [if_pos a5, if_pos a5]; rfl
    rw [if_neg a5, if_neg a5]
    by_cases a6 : r.Length < 1
    · rw [if_pos a6, if_pos (show ¬ (1 ≤ r.Length ∧ r.Length ≤ 100000) by omega)]; rfl
    rw [if_neg a6]
    by_cases a7 : r.Length > 100000
    · rw [if_pos a7, if_pos (show ¬ (1 ≤ r.Length ∧ r.Length ≤ 100000) by omega)]; rfl
    rw [if_neg a7, if_neg (show ¬ ¬ (1 ≤ r.Length ∧ r.Length ≤ 100000) by omega)]
    by_cases a8 : r.Area < 1
    · rw [if_pos a8, if_pos (show ¬ (1 ≤ r.Area ∧ r.Area ≤ 1000) by omega)]; rfl
    rw [if_neg a8]
    by_cases a9 : r.Area > 1000
    · rw [if_pos a9, if_pos (show ¬ (1 ≤ r.Area ∧ r.Area ≤ 1000) by omega)]; rfl
    rw [if_neg a9, if_neg (show ¬ ¬ (1 ≤ r.Area ∧ r.Area ≤ 1000) by omega)]
    by_cases b1 : 1 ≤ r.Rest.Low ∧ r.Rest.Low ≤ r.Rest.High ∧ r.Rest.High ≤ 262144
    · rw [if_neg (not_not_intro b1), if_neg (not_not_intro b1)]
      by_cases b2 : -2199023255552 ≤ r.Lift.Low ∧ r.Lift.Low ≤ r.Lift.High ∧ r.Lift.High ≤ 2199023255552
      · rw [if_neg (not_not_intro b2), if_neg (not_not_intro b2)]; rfl
      · rw [if_pos b2, if_pos b2]; rfl
    · rw [if_pos b1, if_pos b1]; rfl
  · unfold ref01_Check_l10_step
    rw [get_f (dge (Nat.le_refl _))]
    rfl
theorem ref01_Check_v (m : SMine) : ref01_Check m = some (mineE m) := by
  rw [ref01_Check_eq]; unfold ref01_Check_t mineE
  by_cases h1 : m.Places.n > 64
  · rw [get_t (decide_eq_true (by omega)), if_pos h1]; rfl
  rw [get_f (decide_eq_false (by omega)), if_neg h1]
  by_cases h2 : m.Roads.n > 128
  · rw [get_t (decide_eq_true (by omega)), if_pos h2]; rfl
  rw [get_f (decide_eq_false (by omega)), if_neg h2, get_sum (ref01_Check_l4_v _ _ (by omega))]
  cases firstN (gP m.Places) m.Places.n 0 with
  | some _ => rfl
  | none =>
    show DT.get (DT.sum _ _ _) = _
    rw [get_sum (ref01_Check_l10_v _ _ (by omega) (by omega))]
    cases firstN (gR m.Places.n m.Roads) m.Roads.n 0 <;> rfl
end Go.Proofs.Ytkgcicbipcifdaa.Ab
