/- Stage 3: maths of mines, of what is drawn. -/
import Derived.Test.YtfedelfcdjldlaaDoorN3a
namespace Go.Proofs.YtfedelfcdjldlaaDoor.Ab
open Go

theorem plan_within_v (n lo hi : Int) : plan_within n lo hi = some (decide (lo ≤ n ∧ n ≤ hi)) := by
  rw [plan_within_eq]; unfold plan_within_t; simp only [DT.get_ite, DT.get_leaf]; split <;> simp_all <;> omega
theorem plan_spans_v (s : SSpan) (lo hi : Int) : plan_spans s lo hi = some (decide (lo ≤ s.Low ∧ s.Low ≤ s.High ∧ s.High ≤ hi)) := by
  rw [plan_spans_eq]; unfold plan_spans_t; simp only [DT.get_ite, DT.get_leaf]; split
  · split <;> simp_all <;> omega
  · simp_all; omega
theorem ref01_Span_v (s : SSpan) (lo hi : Int) : ref01_Span s lo hi = some (decide (lo ≤ s.Low ∧ s.Low ≤ s.High ∧ s.High ≤ hi)) := by
  rw [ref01_Span_eq]; unfold ref01_Span_t; simp only [DT.get_ite, DT.get_leaf]; split
  · split <;> simp_all <;> omega
  · simp_all; omega
def roadE (r : SRoad) (p : Int) : Int :=
  if ¬ (0 ≤ r.From ∧ r.From ≤ p - 1) then 4 else if ¬ (0 ≤ r.To ∧ r.To ≤ p - 1) then 4 else if r.From = r.To then 4
  else if ¬ (1 ≤ r.Length ∧ r.Length ≤ 100000) then 1 else if ¬ (1 ≤ r.Area ∧ r.Area ≤ 1000) then 1
  else if ¬ (1 ≤ r.Rest.Low ∧ r.Rest.Low ≤ r.Rest.High ∧ r.Rest.High ≤ 262144) then 1
  else if ¬ (-2199023255552 ≤ r.Lift.Low ∧ r.Lift.Low ≤ r.Lift.High ∧ r.Lift.High ≤ 2199023255552) then 1 else 0
theorem plan_checkRoad_v (r : SRoad) (p : Int) (h0 : 0 ≤ p) (h1 : p ≤ 1000) : plan_checkRoad r p = some (roadE r p) := by
  rw [plan_checkRoad_eq]; unfold plan_checkRoad_t roadE
  rw [wr_ok (by omega) (by omega)]
  simp only [plan_within_v, plan_spans_v, DT.get_some, DT.get_ite, DT.get_leaf, Bool.not_eq_true', decide_eq_false_iff_not, beq_iff_eq]
  repeat' (split; · rfl)
  rfl
def gP (P : Sq SPlace) (i : Nat) : Option Unit := if -10000 ≤ (P.f i).Height ∧ (P.f i).Height ≤ 10000 then none else some ()
def gR (np : Nat) (R : Sq SRoad) (i : Nat) : Option Int := if roadE (R.f i) np = 0 then none else some (roadE (R.f i) np)
def sumO {B : Type} : Option B → Unit ⊕ B
  | some b => .inr b
  | none => .inl ()
theorem sumO_eq {B : Type} (o : Option B) : (match o with | some b => (.inr b : Unit ⊕ B) | none => .inl ()) = sumO o := by cases o <;> rfl
theorem plan_Check_l4_v (P : Sq SPlace) (R : Sq SRoad) (h : P.n ≤ 64) : plan_Check_l4 P R 0 = some (sumO (firstN (gP P) P.n 0)) := by
  rw [plan_Check_l4_eq, ← sumO_eq]
  refine loop_first (step := fun v => plan_Check_l4_step P R v) (gP P) (fun i hi => ?_) ?_ P.n 0 (Nat.zero_add _)
  · unfold plan_Check_l4_step gP
    rw [get_t (dlt hi), get_t (dix hi), wr_next (by omega), toNat_nat]
    simp only [plan_within_v, DT.get_some, DT.get_ite, DT.get_leaf, Bool.not_eq_true', decide_eq_false_iff_not]
    split <;> simp_all
  · unfold plan_Check_l4_step
    rw [get_f (dge (Nat.le_refl _))]
    rfl
theorem ref01_Check_l4_v (P : Sq SPlace) (R : Sq SRoad) (h : P.n ≤ 64) : ref01_Check_l4 P R 0 = some (sumO (firstN (gP P) P.n 0)) := by
  rw [ref01_Check_l4_eq, ← sumO_eq]
  refine loop_first (step := fun v => ref01_Check_l4_step P R v) (gP P) (fun i hi => ?_) ?_ P.n 0 (Nat.zero_add _)
  · unfold ref01_Check_l4_step gP
    rw [get_t (dlt hi), get_t (dix hi), wr_next (by omega), toNat_nat]
    simp only [DT.get_ite, DT.get_leaf, decide_eq_true_eq]
    split
    · rw [if_neg (by omega)]
    · split
      · rw [if_neg (by omega)]
      · rw [if_pos (by omega)]
  · unfold ref01_Check_l4_step
    rw [get_f (dge (Nat.le_refl _))]
    rfl
theorem plan_Check_l10_v (P : Sq SPlace) (R : Sq SRoad) (h : P.n ≤ 64) (h2 : R.n ≤ 128) : plan_Check_l10 R P 0 = some (sumO (firstN (gR P.n R) R.n 0)) := by
  rw [plan_Check_l10_eq, ← sumO_eq]
  refine loop_first (step := fun v => plan_Check_l10_step R P v) (gR P.n R) (fun i hi => ?_) ?_ R.n 0 (Nat.zero_add _)
  · unfold plan_Check_l10_step gR
    rw [get_t (dlt hi), get_t (dix hi), wr_next (by omega), toNat_nat, plan_checkRoad_v _ _ (by omega) (by omega)]
    simp only [DT.get_some, DT.get_ite, DT.get_leaf, bne_iff_ne]
    by_cases hq : roadE (R.f i) P.n = 0
    · rw [if_neg (by simp [hq]), if_pos hq]
    · rw [if_pos hq, if_neg hq]
  · unfold plan_Check_l10_step
    rw [get_f (dge (Nat.le_refl _))]
    rfl
theorem ref01_Check_l10_v (P : Sq SPlace) (R : Sq SRoad) (_ : P.n ≤ 64) (h2 : R.n ≤ 128) : ref01_Check_l10 P R 0 = some (sumO (firstN (gR P.n R) R.n 0)) := by
  rw [ref01_Check_l10_eq, ← sumO_eq]
  refine loop_first (step := fun v => ref01_Check_l10_step P R v) (gR P.n R) (fun i hi => ?_) ?_ R.n 0 (Nat.zero_add _)
  · unfold ref01_Check_l10_step gR
    rw [get_t (dlt hi), get_t (dix hi), wr_next (by omega), toNat_nat]
    simp only [ref01_Span_v, DT.get_some, DT.get_ite, DT.get_leaf, decide_eq_true_eq, Bool.not_eq_true', decide_eq_false_iff_not, beq_iff_eq]
    generalize R.f i = r
    unfold roadE
    by_cases a1 : r.From < 0
    · rw [if_pos a1, if_pos (show ¬ (0 ≤ r.From ∧ r.From ≤ (P.n : Int) - 1) by omega)]; rfl
    rw [if_neg a1]
    by_cases a2 : r.From ≥ (P.n : Int)
    · rw [if_pos a2, if_pos (show ¬ (0 ≤ r.From ∧ r.From ≤ (P.n : Int) - 1) by omega)]; rfl
    rw [if_neg a2, if_neg (show ¬ ¬ (0 ≤ r.From ∧ r.From ≤ (P.n : Int) - 1) by omega)]
    by_cases a3 : r.To < 0
    · rw [if_pos a3, if_pos (show ¬ (0 ≤ r.To ∧ r.To ≤ (P.n : Int) - 1) by omega)]; rfl
    rw [if_neg a3]
    by_cases a4 : r.To ≥ (P.n : Int)
    · rw [if_pos a4, if_pos (show ¬ (0 ≤ r.To ∧ r.To ≤ (P.n : Int) - 1) by omega)]; rfl
    rw [if_neg a4, if_neg (show ¬ ¬ (0 ≤ r.To ∧ r.To ≤ (P.n : Int) - 1) by omega)]
    by_cases a5 : r.From = r.To
    · rw [if_pos a5, if_pos a5]; rfl
    rw [if_neg a5, if_neg a5]
    by_cases a6 : r.Length < 1
    · rw [if_pos a6, if_pos (show ¬ (1 ≤ r.Length ∧ r.Length ≤ 100000) by omega)]; rfl
    rw [if_neg a6]
    by_cases a7 : r.Length > 100000
    · rw [if_pos a7, if_pos (show ¬ (1 ≤ r.Length ∧ r.Length ≤ 100000) by omega)]; rfl
    rw [if_neg a7, if_neg (show ¬ ¬ (1 ≤ r.Length ∧ r.Length ≤ 100000) by omega)]
    by_cases a8 : r.Area < 1
    · rw [if_pos a8, if_pos (show ¬ (1 ≤ r.Area ∧ r.Area ≤ 1000) by omega)]; rfl
    rw [if_neg a8]
    by_cases a9 : r.Area > 1000
    · rw [if_pos a9, if_pos (show ¬ (1 ≤ r.Area ∧ r.Area ≤ 1000) by omega)]; rfl
    rw [if_neg a9, if_neg (show ¬ ¬ (1 ≤ r.Area ∧ r.Area ≤ 1000) by omega)]
    by_cases b1 : 1 ≤ r.Rest.Low ∧ r.Rest.Low ≤ r.Rest.High ∧ r.Rest.High ≤ 262144
    · rw [if_neg (not_not_intro b1), if_neg (not_not_intro b1)]
      by_cases b2 : -2199023255552 ≤ r.Lift.Low ∧ r.Lift.Low ≤ r.Lift.High ∧ r.Lift.High ≤ 2199023255552
      · rw [if_neg (not_not_intro b2), if_neg (not_not_intro b2)]; rfl
      · rw [if_pos b2, if_pos b2]; rfl
    · rw [if_pos b1, if_pos b1]; rfl
  · unfold ref01_Check_l10_step
    rw [get_f (dge (Nat.le_refl _))]
    rfl
def mineE (m : SMine) : Int :=
  if m.Places.n > 64 then 2 else if m.Roads.n > 128 then 2 else match firstN (gP m.Places) m.Places.n 0 with
    | some _ => 1
    | none => match firstN (gR m.Places.n m.Roads) m.Roads.n 0 with
      | some e => e
      | none => 0
theorem plan_Check_v (m : SMine) : plan_Check m = some (mineE m) := by
  rw [plan_Check_eq]; unfold plan_Check_t mineE
  by_cases h1 : m.Places.n > 64
  · rw [get_t (decide_eq_true (by omega)), if_pos h1]; rfl
  rw [get_f (decide_eq_false (by omega)), if_neg h1]
  by_cases h2 : m.Roads.n > 128
  · rw [get_t (decide_eq_true (by omega)), if_pos h2]; rfl
  rw [get_f (decide_eq_false (by omega)), if_neg h2, get_sum (plan_Check_l4_v _ _ (by omega))]
  cases firstN (gP m.Places) m.Places.n 0 with
  | some _ => rfl
  | none =>
    show DT.get (DT.sum _ _ _) = _
    rw [get_sum (plan_Check_l10_v _ _ (by omega) (by omega))]
    cases firstN (gR m.Places.n m.Roads) m.Roads.n 0 <;> rfl
theorem ref01_Check_v (m : SMine) : ref01_Check m = some (mineE m) := by
  rw [ref01_Check_eq]; unfold ref01_Check_t mineE
  by_cases h1 : m.Places.n > 64
  · rw [get_t (decide_eq_true (by omega)), if_pos h1]; rfl
  rw [get_f (decide_eq_false (by omega)), if_neg h1]
  by_cases h2 : m.Roads.n > 128
  · rw [get_t (decide_eq_true (by omega)), if_pos h2]; rfl
  rw [get_f (decide_eq_false (by omega)), if_neg h2, get_sum (ref01_Check_l4_v _ _ (by omega))]
  cases firstN (gP m.Places) m.Places.n 0 with
  | some _ => rfl
  | none =>
    show DT.get (DT.sum _ _ _) = _
    rw [get_sum (ref01_Check_l10_v _ _ (by omega) (by omega))]
    cases firstN (gR m.Places.n m.Roads) m.Roads.n 0 <;> rfl
theorem firstN_err {g : Nat → Option Int} (hg : ∀ i z, g i = some z → z ≠ 0) {n i : Nat} (h : (match firstN g n i with | some e => e | none => 0) = 0) : firstN g n i = none := by
  cases hf : firstN g n i with
  | none => rfl
  | some z =>
    rw [hf] at h
    obtain ⟨j, _, _, h3, _⟩ := firstN_some hf
    exact absurd h (hg j z h3)
structure MineOK (m : SMine) : Prop where
  np : m.Places.n ≤ 64
  nr : m.Roads.n ≤ 128
  h : ∀ i, i < m.Places.n → -10000 ≤ (m.Places.f i).Height ∧ (m.Places.f i).Height ≤ 10000
  r : ∀ i, i < m.Roads.n → roadE (m.Roads.f i) m.Places.n = 0
theorem gR_ne {np : Nat} {R : Sq SRoad} : ∀ i z, gR np R i = some z → z ≠ 0 := by
  intro i z h
  unfold gR at h
  split at h
  · cases h
  · rename_i hq; injection h with h; subst h; exact hq
theorem mineE_ok (m : SMine) : mineE m = 0 ↔ MineOK m := by
  unfold mineE
  by_cases h1 : m.Places.n > 64
  · rw [if_pos h1]; exact ⟨fun h => by omega, fun h => absurd h.np (by omega)⟩
  rw [if_neg h1]
  by_cases h2 : m.Roads.n > 128
  · rw [if_pos h2]; exact ⟨fun h => by omega, fun h => absurd h.nr (by omega)⟩
  rw [if_neg h2]
  cases hp : firstN (gP m.Places) m.Places.n 0 with
  | some u =>
    refine ⟨fun h => (by cases h), fun h => ?_⟩
    obtain ⟨j, _, h4, h5, _⟩ := firstN_some hp
    have := h.h j (by omega)
    unfold gP at h5
    rw [if_pos this] at h5
    cases h5
  | none =>
    constructor
    · intro h
      have hr := firstN_err gR_ne h
      refine ⟨by omega, by omega, fun i hi => ?_, fun i hi => ?_⟩
      · have := firstN_none hp i (by omega) (by omega)
        unfold gP at this
        split at this
        · assumption
        · cases this
      · have := firstN_none hr i (by omega) (by omega)
        unfold gR at this
        split at this
        · assumption
        · cases this
    · intro h
      have : firstN (gR m.Places.n m.Roads) m.Roads.n 0 = none := firstN_all fun j _ hj => by
        unfold gR
        rw [if_pos (h.r j (by omega))]
      rw [this]
structure CdOK (c : SCodes) : Prop where
  n : c.l_.n ≤ 300
  a0 : 0 ≤ c.at_
  a1 : c.at_ ≤ 300
  b : ∀ k, 0 ≤ c.l_.f k ∧ c.l_.f k ≤ 255
theorem CdOK.at {c : SCodes} (h : CdOK c) {a : Int} (h0 : 0 ≤ a) (h1 : a ≤ 300) : CdOK ⟨c.l_, a⟩ := ⟨h.n, h0, h1, h.b⟩
theorem Codes_Next_ex {c : SCodes} (hc : CdOK c) (n : Int) (hn : n ≤ 1000000) : ∃ v a, Codes_Next c n = some (v, a) ∧ 0 ≤ a ∧ a ≤ 300 ∧ 0 ≤ v ∧ (1 ≤ n → v < n) ∧ (n < 1 → v = 0) := by
  rw [Codes_Next_eq]
  unfold Codes_Next_t
  have h0 := hc.a0; have h1 := hc.a1; have h2 := hc.n
  by_cases c1 : n < 1
  · rw [get_t (decide_eq_true c1)]
    exact ⟨0, c.at_, rfl, h0, h1, Int.le_refl _, fun h => by omega, fun _ => rfl⟩
  rw [get_f (decide_eq_false c1)]
  by_cases c2 : c.at_ ≥ (c.l_.n : Int)
  · rw [get_t (decide_eq_true c2)]
    exact ⟨0, c.at_, rfl, h0, h1, Int.le_refl _, fun h => by omega, fun _ => rfl⟩
  rw [get_f (decide_eq_false c2)]
  have e1 : wr (c.at_ + 1) = c.at_ + 1 := wr_ok (by omega) (by omega)
  have e2 : wr (c.at_ + 1 - 1) = c.at_ := by rw [wr_ok (by omega) (by omega)]; omega
  have e4 : wr (c.at_ + 1 + 1) = c.at_ + 2 := by rw [wr_ok (by omega) (by omega)]; omega
  have e3 : (n != 0) = true := by simp; omega
  have wb : ∀ k, wr (c.l_.f k) = c.l_.f k := fun k => wr_ok (by have := hc.b k; omega) (by have := hc.b k; omega)
  have lt : ∀ x : Int, x.tmod n < n := fun x => Int.tmod_lt_of_pos x (by omega)
  rw [e1, e2, get_t (decide_eq_true ⟨by omega, by omega⟩)]
  simp only [wb, e4]
  by_cases c3 : n > 256
  · rw [get_t (decide_eq_true c3)]
    by_cases c4 : c.at_ + 1 < (c.l_.n : Int)
    · rw [get_t (decide_eq_true c4), get_t (decide_eq_true ⟨by omega, c4⟩), get_t e3]
      have q1 := hc.b c.at_.toNat
      have q2 := hc.b (c.at_ + 1).toNat
      have w1 : wr (c.l_.f c.at_.toNat * 256) = c.l_.f c.at_.toNat * 256 := wr_ok (by omega) (by omega)
      have w2 : wr (c.l_.f c.at_.toNat * 256 + c.l_.f (c.at_ + 1).toNat) = c.l_.f c.at_.toNat * 256 + c.l_.f (c.at_ + 1).toNat := wr_ok (by omega) (by omega)
      rw [w1, w2]
      exact ⟨_, _, rfl, by omega, by omega, Int.tmod_nonneg _ (by omega), fun _ => lt _, fun h => by omega⟩
    · rw [get_f (decide_eq_false c4), get_t e3]
      exact ⟨_, _, rfl, by omega, by omega, Int.tmod_nonneg _ (hc.b _).1, fun _ => lt _, fun h => by omega⟩
  · rw [get_f (decide_eq_false c3), get_t e3]
    exact ⟨_, _, rfl, by omega, by omega, Int.tmod_nonneg _ (hc.b _).1, fun _ => lt _, fun h => by omega⟩
theorem Codes_One_ex {c : SCodes} (hc : CdOK c) (n : Int) (hn : n ≤ 1000000) : ∃ v a, Codes_One c n = some (v, a) ∧ 0 ≤ a ∧ a ≤ 300 := by
  obtain ⟨v, a, e, h0, h1, _⟩ := Codes_Next_ex hc n hn
  rw [Codes_One_eq]; unfold Codes_One_t
  rw [get_bind e]
  exact ⟨_, _, rfl, h0, h1⟩
theorem Codes_Range_ex {c : SCodes} (hc : CdOK c) (lo hi : Int) (h : lo ≤ hi) (hl : -10000 ≤ lo) (hh : hi ≤ 10000) : ∃ v a, Codes_Range c lo hi = some (v, a) ∧ 0 ≤ a ∧ a ≤ 300 ∧ lo ≤ v ∧ v ≤ hi := by
  have e1 : wr (hi - lo) = hi - lo := wr_ok (by omega) (by omega)
  have e2 : wr (hi - lo + 1) = hi - lo + 1 := wr_ok (by omega) (by omega)
  obtain ⟨v, a, e, h0, h1, h2, h3, _⟩ := Codes_Next_ex hc (hi - lo + 1) (by omega)
  have h3 := h3 (by omega)
  rw [Codes_Range_eq]; unfold Codes_Range_t
  rw [e1, e2, get_bind e]
  have e3 : wr (lo + v) = lo + v := wr_ok (by omega) (by omega)
  exact ⟨lo + v, a, by rw [DT.get_leaf]; dsimp only; rw [e3], h0, h1, by omega, by omega⟩
structure RdD (r : SRoad) : Prop where
  l0 : 1 ≤ r.Length
  l1 : r.Length ≤ 400
  a0 : 4 ≤ r.Area
  a1 : r.Area ≤ 30
  r0 : 1 ≤ r.Rest.Low
  r1 : r.Rest.Low ≤ r.Rest.High
  r2 : r.Rest.High ≤ 22
theorem Codes_Road_ex {c : SCodes} (hc : CdOK c) (p q : Int) : ∃ r a, Codes_Road c p q = some (r, a) ∧ 0 ≤ a ∧ a ≤ 300 ∧ RdD r ∧ r.From = p ∧ r.To = q ∧ r.Closed = false := by
  obtain ⟨v1, a1, e1, l1, u1, x1, y1⟩ := Codes_Range_ex hc 1 400 (by omega) (by omega) (by omega)
  obtain ⟨v2, a2, e2, l2, u2, x2, y2⟩ := Codes_Range_ex (hc.at l1 u1) 4 30 (by omega) (by omega) (by omega)
  obtain ⟨v3, a3, e3, l3, u3, x3, y3, _⟩ := Codes_Next_ex (hc.at l2 u2) 4 (by omega)
  obtain ⟨v4, a4, e4, l4, u4, x4, y4⟩ := Codes_Range_ex (hc.at l3 u3) 1 20 (by omega) (by omega) (by omega)
  obtain ⟨v5, a5, e5, l5, u5, x5, y5, _⟩ := Codes_Next_ex (hc.at l4 u4) 3 (by omega)
  obtain ⟨v6, a6, e6, l6, u6, x6, y6⟩ := Codes_Range_ex (hc.at l5 u5) (-300) 300 (by omega) (by omega) (by omega)
  obtain ⟨v7, a7, e7, l7, u7, x7, y7, _⟩ := Codes_Next_ex (hc.at l6 u6) 20 (by omega)
  have y5 := y5 (by omega)
  rw [Codes_Road_eq]; unfold Codes_Road_t
  rw [get_bind e1, get_bind e2, get_bind e3, get_bind e4, get_bind e5, get_bind e6, get_bind e7]
  have w5 : wr (v4 + v5) = v4 + v5 := wr_ok (by omega) (by omega)
  refine ⟨_, _, rfl, l7, u7, ⟨x1, y1, x2, y2, x4, ?_, ?_⟩, rfl, rfl, rfl⟩
  · show v4 ≤ wr (v4 + v5); omega
  · show wr (v4 + v5) ≤ 22; omega
theorem blt_t {k n : Nat} (h : k < n) : Nat.blt k n = true := Nat.ble_eq_true_of_le h
theorem blt_f {k n : Nat} (h : n ≤ k) : Nat.blt k n = false := by
  cases hb : Nat.blt k n with
  | false => rfl
  | true => have : k < n := Nat.le_of_ble_eq_true hb; omega
theorem New_ex (l : Sq Int) (h : ∀ k, 0 ≤ l.f k ∧ l.f k ≤ 255) : ∃ c, New l = some c ∧ CdOK c := by
  rw [New_eq]; unfold New_t
  rw [get_t (decide_eq_true (by split <;> omega))]
  refine ⟨_, rfl, ?_, by dsimp only; omega, by dsimp only; omega, h⟩
  dsimp only
  split <;> omega
theorem Mod_ex (k n : Int) (h : n ≤ 1000000000000000000) : ∃ v, Mod k n = some v ∧ (n < 1 → v = 0) ∧ (1 ≤ n → 0 ≤ v ∧ v < n) := by
  rw [Mod_eq]; unfold Mod_t
  by_cases c1 : n < 1
  · rw [get_t (decide_eq_true c1)]; exact ⟨0, rfl, fun _ => rfl, fun h => by omega⟩
  rw [get_f (decide_eq_false c1), get_t (by simp; omega)]
  have h1 := Int.tmod_lt_of_pos k (show 0 < n by omega)
  have h2 : -n < k.tmod n := by
    have e := Int.tmod_lt_of_pos (-k) (show 0 < n by omega)
    rw [Int.neg_tmod] at e
    omega
  by_cases c2 : k.tmod n < 0
  · rw [get_t (decide_eq_true c2)]
    have z1 : wr (k.tmod n + n) = k.tmod n + n := wr_ok (by omega) (by omega)
    exact ⟨_, rfl, fun h => by omega, fun _ => by omega⟩
  · rw [get_f (decide_eq_false c2)]
    exact ⟨_, rfl, fun h => by omega, fun _ => by omega⟩
theorem cond_blt {α : Type} (k n : Nat) (x y : α) : cond (Nat.blt k n) x y = if k < n then x else y := by
  by_cases h : k < n
  · rw [blt_t h, if_pos h]; rfl
  · rw [blt_f (by omega), if_neg h]; rfl
theorem beq_t {k n : Nat} (h : k = n) : Nat.beq k n = true := by subst h; exact Nat.beq_refl k
theorem beq_f {k n : Nat} (h : k ≠ n) : Nat.beq k n = false := by
  cases hb : Nat.beq k n with
  | false => rfl
  | true => exact absurd (Nat.eq_of_beq_eq_true hb) h
theorem road_app {n k : Nat} {R : Nat → SRoad} {r : SRoad} : (SRoad.mk (cond (Nat.blt k n) (R k).From r.From) (cond (Nat.blt k n) (R k).To r.To) (cond (Nat.blt k n) (R k).Length r.Length) (cond (Nat.blt k n) (R k).Area r.Area) (cond (Nat.blt k n) (R k).Walk r.Walk) (cond (Nat.blt k n) (R k).Closed r.Closed) (SSpan.mk (cond (Nat.blt k n) (R k).Rest.Low r.Rest.Low) (cond (Nat.blt k n) (R k).Rest.High r.Rest.High)) (SSpan.mk (cond (Nat.blt k n) (R k).Lift.Low r.Lift.Low) (cond (Nat.blt k n) (R k).Lift.High r.Lift.High))) = if k < n then R k else r := by
  by_cases h : k < n
  · rw [blt_t h, if_pos h]; rfl
  · rw [blt_f (by omega), if_neg h]; rfl
def sumN (g : Nat → Int) : Nat → Int
  | 0 => 0
  | k + 1 => sumN g k + g k
theorem sumN_congr {g g' : Nat → Int} : ∀ {n : Nat}, (∀ i, i < n → g i = g' i) → sumN g n = sumN g' n := by
  intro n
  induction n with
  | zero => intro _; rfl
  | succ n ih => intro h; show sumN g n + g n = sumN g' n + g' n; rw [ih fun i hi => h i (by omega), h n (by omega)]
theorem road_ends {m : SMine} (h : MineOK m) {i : Nat} (hi : i < m.Roads.n) : 0 ≤ (m.Roads.f i).From ∧ (m.Roads.f i).From < m.Places.n ∧ 0 ≤ (m.Roads.f i).To ∧ (m.Roads.f i).To < m.Places.n ∧ (m.Roads.f i).From ≠ (m.Roads.f i).To := by
  have := h.r i hi
  unfold roadE at this
  repeat' (split at this; · omega)
  omega
theorem Codes_Road_all {c : SCodes} (hc : CdOK c) (p q : Int) : ∃ r a, Codes_Road c p q = some (r, a) ∧ 0 ≤ a ∧ a ≤ 300 ∧ RdD r ∧ r.From = p ∧ r.To = q ∧ -300 ≤ r.Lift.Low ∧ r.Lift.Low ≤ r.Lift.High ∧ r.Lift.High ≤ 319 := by
  obtain ⟨v1, a1, e1, l1, u1, x1, y1⟩ := Codes_Range_ex hc 1 400 (by omega) (by omega) (by omega)
  obtain ⟨v2, a2, e2, l2, u2, x2, y2⟩ := Codes_Range_ex (hc.at l1 u1) 4 30 (by omega) (by omega) (by omega)
  obtain ⟨v3, a3, e3, l3, u3, x3, y3, _⟩ := Codes_Next_ex (hc.at l2 u2) 4 (by omega)
  obtain ⟨v4, a4, e4, l4, u4, x4, y4⟩ := Codes_Range_ex (hc.at l3 u3) 1 20 (by omega) (by omega) (by omega)
  obtain ⟨v5, a5, e5, l5, u5, x5, y5, _⟩ := Codes_Next_ex (hc.at l4 u4) 3 (by omega)
  obtain ⟨v6, a6, e6, l6, u6, x6, y6⟩ := Codes_Range_ex (hc.at l5 u5) (-300) 300 (by omega) (by omega) (by omega)
  obtain ⟨v7, a7, e7, l7, u7, x7, y7, _⟩ := Codes_Next_ex (hc.at l6 u6) 20 (by omega)
  have y5 := y5 (by omega)
  have y7 := y7 (by omega)
  rw [Codes_Road_eq]; unfold Codes_Road_t
  rw [get_bind e1, get_bind e2, get_bind e3, get_bind e4, get_bind e5, get_bind e6, get_bind e7]
  have w5 : wr (v4 + v5) = v4 + v5 := wr_ok (by omega) (by omega)
  have w7 : wr (v6 + v7) = v6 + v7 := wr_ok (by omega) (by omega)
  refine ⟨_, _, rfl, l7, u7, ⟨x1, y1, x2, y2, x4, ?_, ?_⟩, rfl, rfl, x6, ?_, ?_⟩
  · show v4 ≤ wr (v4 + v5); omega
  · show wr (v4 + v5) ≤ 22; omega
  · show v6 ≤ wr (v6 + v7); omega
  · show wr (v6 + v7) ≤ 319; omega
structure MnD (m : SMine) : Prop where
  n0 : 2 ≤ m.Places.n
  n1 : m.Places.n ≤ 7
  ok : MineOK m
theorem Codes_Mine_at {c : SCodes} (hc : CdOK c) : ∃ m b, Codes_Mine c = some (m, b) ∧ MnD m ∧ 0 ≤ b ∧ b ≤ 300 := by
  obtain ⟨w, b0, e0, l0, u0, p0, q0, _⟩ := Codes_Next_ex hc 6 (by omega)
  have q0 := q0 (by omega)
  have key := loop_ex (step := fun v : Int × Int × Sq SPlace => Codes_Mine_l3_step c.l_ v.1 v.2.1 v.2.2)
    (fun v => 0 ≤ v.1 ∧ 0 ≤ v.2.1 ∧ v.2.1 ≤ 300 ∧ (v.2.2.n : Int) + v.1 = w + 2 ∧ ∀ k, k < v.2.2.n → -10000 ≤ (v.2.2.f k).Height ∧ (v.2.2.f k).Height ≤ 10000) (fun v => v.1.toNat)
    (fun z => ∃ y, z = .inl y ∧ 0 ≤ y.1 ∧ y.1 ≤ 300 ∧ (y.2.n : Int) = w + 2 ∧ ∀ k, k < y.2.n → -10000 ≤ (y.2.f k).Height ∧ (y.2.f k).Height ≤ 10000) (fun v hv => by
      obtain ⟨n, a, P⟩ := v
      obtain ⟨h1, h2, h3, h4, h5⟩ := hv
      dsimp only at h1 h2 h3 h4 h5 ⊢
      unfold Codes_Mine_l3_step
      by_cases c0 : n > 0
      · obtain ⟨v1, a1, e1, l1, u1, x1, y1⟩ := Codes_Range_ex (hc.at h2 h3) (-60) 60 (by omega) (by omega) (by omega)
        obtain ⟨v2, a2, e2, l2, u2⟩ := Codes_One_ex (hc.at l1 u1) 5 (by omega)
        rw [get_t (decide_eq_true c0), get_bind e1, get_bind e2, get_t (decide_eq_true ⟨by omega, by omega⟩), wr_ok (by omega) (by omega)]
        refine ⟨_, rfl, ⟨by dsimp only; omega, l2, u2, by dsimp only; omega, fun k hk => ?_⟩, by dsimp only; omega⟩
        dsimp only at hk ⊢
        by_cases ck : k < P.n
        · rw [blt_t ck]; exact h5 k ck
        · rw [blt_f (by omega)]; dsimp only [cond]; omega
      · rw [get_f (decide_eq_false c0)]
        exact ⟨_, rfl, _, rfl, h2, h3, by dsimp only; omega, h5⟩)
    (1 + w, b0, ⟨1, fun _ => ⟨0, true⟩⟩) ⟨by dsimp only; omega, l0, u0, by dsimp only; omega, fun k _ => by dsimp only; omega⟩
  obtain ⟨z, hz, y, rfl, y0, y1, yn, yh⟩ := key
  obtain ⟨w2, b2, e2, l2, u2, p2, q2, _⟩ := Codes_Next_ex (hc.at y0 y1) 9 (by omega)
  have q2 := q2 (by omega)
  have key2 := loop_ex (step := fun v : Int × Int × Sq SRoad => Codes_Mine_l8_step c.l_ y.2 v.1 v.2.1 v.2.2)
    (fun v => 0 ≤ v.1 ∧ 0 ≤ v.2.1 ∧ v.2.1 ≤ 300 ∧ (v.2.2.n : Int) + v.1 = w2 ∧ ∀ k, k < v.2.2.n → roadE (v.2.2.f k) y.2.n = 0) (fun v => v.1.toNat)
    (fun z => ∃ x, z = .inl x ∧ (0 ≤ x.1 ∧ x.1 ≤ 300) ∧ (x.2.n : Int) = w2 ∧ ∀ k, k < x.2.n → roadE (x.2.f k) y.2.n = 0) (fun v hv => by
      obtain ⟨n, a, R⟩ := v
      obtain ⟨h1, h2, h3, h4, h5⟩ := hv
      dsimp only at h1 h2 h3 h4 h5 ⊢
      unfold Codes_Mine_l8_step
      by_cases c0 : n > 0
      · obtain ⟨v1, a1, f1, l1, u1, x1, y1', _⟩ := Codes_Next_ex (hc.at h2 h3) (y.2.n : Int) (by omega)
        have y1' := y1' (by omega)
        have z0 : wr ((y.2.n : Int) - 1) = (y.2.n : Int) - 1 := wr_ok (by omega) (by omega)
        obtain ⟨v2, a2, f2, l2, u2, x2, y2, _⟩ := Codes_Next_ex (hc.at l1 u1) (wr ((y.2.n : Int) - 1)) (by omega)
        have y2 := y2 (by omega)
        rw [z0] at y2
        have z2 : wr (wr (v1 + 1) + v2) = v1 + 1 + v2 := by rw [wr_ok (x := v1 + 1) (by omega) (by omega)]; exact wr_ok (by omega) (by omega)
        obtain ⟨t0, t1, tn⟩ : 0 ≤ Int.tmod (v1 + 1 + v2) y.2.n ∧ Int.tmod (v1 + 1 + v2) y.2.n < y.2.n ∧ Int.tmod (v1 + 1 + v2) y.2.n ≠ v1 := by
          by_cases c : v1 + 1 + v2 < y.2.n
          · rw [Int.tmod_eq_of_lt (by omega) c]; omega
          · rw [Int.tmod_eq_emod_of_nonneg (by omega), show v1 + 1 + v2 = (v1 + 1 + v2 - y.2.n) + y.2.n by omega, Int.add_emod_right, Int.emod_eq_of_lt (by omega) (by omega)]
            omega
        obtain ⟨r, a3, f3, l3, u3, rd, rf, rt, rl0, rl1, rl2⟩ := Codes_Road_all (hc.at l2 u2) v1 (Int.tmod (v1 + 1 + v2) y.2.n)
        obtain ⟨cl, a4, f4, l4, u4⟩ := Codes_One_ex (hc.at l3 u3) 6 (by omega)
        rw [get_t (decide_eq_true c0), get_bind f1, get_bind f2, get_t (by simp; omega), z2, get_bind f3, get_bind f4, get_t (decide_eq_true ⟨by omega, by omega⟩), wr_ok (by omega) (by omega)]
        refine ⟨_, rfl, ⟨by dsimp only; omega, l4, u4, by dsimp only; omega, fun k hk => ?_⟩, by dsimp only; omega⟩
        dsimp only at hk ⊢
        rw [road_app (R := R.f) (r := { r with Closed := cl })]
        split
        · rename_i ck; exact h5 k ck
        · have d0 := rd.l0
          have d1 := rd.l1
          have d2 := rd.a0
          have d3 := rd.a1
          have d4 := rd.r0
          have d5 := rd.r1
          have d6 := rd.r2
          unfold roadE
          dsimp only
          rw [if_neg (by omega), if_neg (by omega), if_neg (by omega), if_neg (by omega), if_neg (by omega), if_neg (by omega), if_neg (by omega)]
      · rw [get_f (decide_eq_false c0)]
        exact ⟨_, rfl, _, rfl, ⟨h2, h3⟩, by dsimp only; omega, h5⟩)
    (w2, b2, ⟨0, fun _ => ⟨0, 0, 0, 0, false, false, ⟨0, 0⟩, ⟨0, 0⟩⟩⟩) ⟨p2, l2, u2, by dsimp only; omega, fun k hk => absurd hk (Nat.not_lt_zero _)⟩
  obtain ⟨z', hz', x, rfl, xb, xn, xr⟩ := key2
  rw [Codes_Mine_eq]; unfold Codes_Mine_t
  rw [get_bind e0]
  dsimp only
  rw [wr_ok (by omega) (by omega), get_sum (by rw [Codes_Mine_l3_eq]; exact hz)]
  dsimp only [Sum.elim]
  rw [get_bind e2]
  dsimp only
  rw [get_sum (by rw [Codes_Mine_l8_eq]; exact hz')]
  exact ⟨_, _, rfl, ⟨by dsimp only; omega, by dsimp only; omega, ⟨by dsimp only; omega, by dsimp only; omega, yh, xr⟩⟩, xb.1, xb.2⟩
theorem Codes_Mine_ex {c : SCodes} (hc : CdOK c) : ∃ m b, Codes_Mine c = some (m, b) ∧ MnD m :=
  let ⟨m, b, h, hm, _⟩ := Codes_Mine_at hc; ⟨m, b, h, hm⟩
end Go.Proofs.YtfedelfcdjldlaaDoor.Ab
