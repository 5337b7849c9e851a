/- Stage 1: maths of mines, of what is drawn. -/
import Derived.Test.YtkgcicbipcifdaaL1c
namespace Go.Proofs.Ytkgcicbipcifdaa.Ab
open Go

theorem plan_within_v (n lo hi : Int) : plan_within n lo hi = some (decide (lo ≤ n ∧ n ≤ hi)) := by
  rw [plan_within_eq]; unfold plan_within_t; simp only [DT.get_ite, DT.get_leaf]; split <;> simp_all <;> omega
theorem plan_spans_v (s : SSpan) (lo hi : Int) : plan_spans s lo hi = some (decide (lo ≤ s.Low ∧ s.Low ≤ s.High ∧ s.High ≤ hi)) := by
  rw [plan_spans_eq]; unfold plan_spans_t; simp only [DT.get_ite, DT.get_leaf]; split
  · split <;> simp_all <;> omega
  · simp_all; omega
def roadE (r : SRoad) (p : Int) : Int :=
  if ¬ (0 ≤ r.From ∧ r.From ≤ p - 1) then 4 else if ¬ (0 ≤ r.To ∧ r.To ≤ p - 1) then 4 else if r.From = r.To then 4
  else if ¬ (1 ≤ r.Length ∧ r.Length ≤ 100000) then 1 else if ¬ (1 ≤ r.Area ∧ r.Area ≤ 1000) then 1
  else if ¬ (1 ≤ r.Rest.Low ∧ r.Rest.Low ≤ r.Rest.High ∧ r.Rest.High ≤ 262144) then 1
  else if ¬ (-2199023255552 ≤ r.Lift.Low ∧ r.Lift.Low ≤ r.Lift.High ∧ r.Lift.High ≤ 2199023255552) then 1 else 0
theorem plan_checkRoad_v (r : SRoad) (p : Int) (h0 : 0 ≤ p) (h1 : p ≤ 1000) : plan_checkRoad r p = some (roadE r p) := by
  rw [plan_checkRoad_eq]; unfold plan_checkRoad_t roadE
  rw [wr_ok (by omega) (by omega)]
  simp only [plan_within_v, plan_spans_v, DT.get_some, DT.get_ite, DT.get_leaf, Bool.not_eq_true', decide_eq_false_iff_not, beq_iff_eq]
  repeat' (split; · rfl)
  rfl
def gP (P : Sq SPlace) (i : Nat) : Option Unit := if -10000 ≤ (P.f i).Height ∧ (P.f i).Height ≤ 10000 then none else some ()
def gR (np : Nat) (R : Sq SRoad) (i : Nat) : Option Int := if roadE (R.f i) np = 0 then none else some (roadE (R.f i) np)
def sumO {B : Type} : Option B → Unit ⊕ B
  | some b => .inr b
  | none => .inl ()
theorem sumO_eq {B : Type} (o : Option B) : (match o with | some b => (.inr b : Unit ⊕ B) | none => .inl ()) = sumO o := by cases o <;> rfl
theorem plan_Check_l4_v (P : Sq SPlace) (R : Sq SRoad) (h : P.n ≤ 64) : plan_Check_l4 P R 0 = some (sumO (firstN (gP P) P.n 0)) := by
  rw [plan_Check_l4_eq, ← sumO_eq]
  refine loop_first (step := fun v => plan_Check_l4_step P R v) (gP P) (fun i hi => ?_) ?_ P.n 0 (Nat.zero_add _)
  · unfold plan_Check_l4_step gP
    rw [get_t (dlt hi), get_t (dix hi), wr_next (by omega), toNat_nat]
    simp only [plan_within_v, DT.get_some, DT.get_ite, DT.get_leaf, Bool.not_eq_true', decide_eq_false_iff_not]
    split <;> simp_all
  · unfold plan_Check_l4_step
    rw [get_f (dge (Nat.le_refl _))]
    rfl
theorem plan_Check_l10_v (P : Sq SPlace) (R : Sq SRoad) (h : P.n ≤ 64) (h2 : R.n ≤ 128) : plan_Check_l10 R P 0 = some (sumO (firstN (gR P.n R) R.n 0)) := by
  rw [plan_Check_l10_eq, ← sumO_eq]
  refine loop_first (step := fun v => plan_Check_l10_step R P v) (gR P.n R) (fun i hi => ?_) ?_ R.n 0 (Nat.zero_add _)
  · unfold plan_Check_l10_step gR
    rw [get_t (dlt hi), get_t (dix hi), wr_next (by omega), toNat_nat, plan_checkRoad_v _ _ (by omega) (by omega)]
    simp only [DT.get_some, DT.get_ite, DT.get_leaf, bne_iff_ne]
    by_cases hq : roadE (R.f i) P.n = 0
    · rw [if_neg (by simp [hq]), if_pos hq]
    · rw [if_pos hq, if_neg hq]
  · unfold plan_Check_l10_step
    rw [get_f (dge (Nat.le_refl _))]
    rfl
def mineE (m : SMine) : Int :=
  if m.Places.n > 64 then 2 else if m.Roads.n > 128 then 2 else match firstN (gP m.Places) m.Places.n 0 with
    | some _ => 1
    | none => match firstN (gR m.Places.n m.Roads) m.Roads.n 0 with
      | some e => e
      | none => 0
theorem plan_Check_v (m : SMine) : plan_Check m = some (mineE m) := by
  rw [plan_Check_eq]; unfold plan_Check_t mineE
  by_cases h1 : m.Places.n > 64
  · rw [get_t (decide_eq_true (by omega)), if_pos h1]; rfl
  rw [get_f (decide_eq_false (by omega)), if_neg h1]
  by_cases h2 : m.Roads.n > 128
  · rw [get_t (decide_eq_true (by omega)), if_pos h2]; rfl
  rw [get_f (decide_eq_false (by omega)), if_neg h2, get_sum (plan_Check_l4_v _ _ (by omega))]
  cases firstN (gP m.Places) m.Places.n 0 with
  | some _ => rfl
  | none =>
    show DT.get (DT.sum _ _ _) = _
    rw [get_sum (plan_Check_l10_v _ _ (by omega) (by omega))]
    cases firstN (gR m.Places.n m.Roads) m.Roads.n 0 <;> rfl
theorem firstN_err {g : Nat → Option Int} (hg : ∀ i z, g i = some z → z ≠ 0) {n i : Nat} (h : (match firstN g n i with | some e => e | none => 0) = 0) : firstN g n i = none := by
  cases hf : firstN g n i with
  | none => rfl
  | some z =>
    rw [hf] at h
    obtain ⟨j, _, _, h3, _⟩ := firstN_some hf
    exact absurd h (hg j z h3)
structure MineOK (m : SMine) : Prop where
  np : m.Places.n ≤ 64
  nr : m.Roads.n ≤ 128
  h : ∀ i, i < m.Places.n → -10000 ≤ (m.Places.f i).Height ∧ (m.Places.f i).Height ≤ 10000
  r : ∀ i, i < m.Roads.n → roadE (m.Roads.f i) m.Places.n = 0
theorem gR_ne {np : Nat} {R : Sq SRoad} : ∀ i z, gR np R i = some z → z ≠ 0 := by
  intro i z h
  unfold gR at h
  split at h
  · cases h
  · rename_i hq; injection h with h; subst h; exact hq
theorem mineE_ok (m : SMine) : mineE m = 0 ↔ MineOK m := by
  unfold mineE
  by_cases h1 : m.Places.n > 64
  · rw [if_pos h1]; exact ⟨fun h => by omega, fun h => absurd h.np (by omega)⟩
  rw [if_neg h1]
  by_cases h2 : m.Roads.n > 128
  · rw [if_pos h2]; exact ⟨fun h => by omega, fun h => absurd h.nr (by omega)⟩
  rw [if_neg h2]
  cases hp : firstN (gP m.Places) m.Places.n 0 with
  | some u =>
    refine ⟨fun h => (by cases h), fun h => ?_⟩
    obtain ⟨j, _, h4, h5, _⟩ := firstN_some hp
    have := h.h j (by omega)
    unfold gP at h5
    rw [if_pos this] at h5
    cases h5
  | none =>
    constructor
    · intro h
      have hr := firstN_err gR_ne h
      refine ⟨by omega, by omega, fun i hi => ?_, fun i hi => ?_⟩
      · have := firstN_none hp i (by omega) (by omega)
        unfold gP at this
        split at this
        · assumption
        · cases this
      · have := firstN_none hr i (by omega) (by omega)
        unfold gR at this
        split at this
        · assumption
        · cases this
    · intro h
      have : firstN (gR m.Places.n m.Roads) m.Roads.n 0 = none := firstN_all fun j _ hj => by
        unfold gR
        rw [if_pos (h.r j (by omega))]
      rw [this]
structure CdOK (c : SCodes) : Prop where
  n : c.l_.n ≤ 300
  a0 : 0 ≤ c.at_
  a1 : c.at_ ≤ 300
  b : ∀ k, 0 ≤ c.l_.f k ∧ c.l_.f k ≤ 255
theorem CdOK.at {c : SCodes} (h : CdOK c) {a : Int} (h0 : 0 ≤ a) (h1 : a ≤ 300) : CdOK ⟨c.l_, a⟩ := ⟨h.n, h0, h1, h.b⟩
theorem Codes_Next_ex {c : SCodes} (hc : CdOK c) (n : Int) (hn : n ≤ 1000000) : ∃ v a, Codes_Next c n = some (v, a) ∧ 0 ≤ a ∧ a ≤ 300 ∧ 0 ≤ v ∧ (1 ≤ n → v < n) ∧ (n < 1 → v = 0) := by
  rw [Codes_Next_eq]
  unfold Codes_Next_t
  have h0 := hc.a0; have h1 := hc.a1; have h2 := hc.n
  by_cases c1 : n < 1
  · rw [get_t (decide_eq_true c1)]
    exact ⟨0, c.at_, rfl, h0, h1, Int.le_refl _, fun h => by omega, fun _ => rfl⟩
  rw [get_f (decide_eq_false c1)]
  by_cases c2 : c.at_ ≥ (c.l_.n : Int)
  · rw [get_t (decide_eq_true c2)]
    exact ⟨0, c.at_, rfl, h0, h1, Int.le_refl _, fun h => by omega, fun _ => rfl⟩
  rw [get_f (decide_eq_false c2)]
  have e1 : wr (c.at_ + 1) = c.at_ + 1 := wr_ok (by omega) (by omega)
  have e2 : wr (c.at_ + 1 - 1) = c.at_ := by rw [wr_ok (by omega) (by omega)]; omega
  have e4 : wr (c.at_ + 1 + 1) = c.at_ + 2 := by rw [wr_ok (by omega) (by omega)]; omega
  have e3 : (n != 0) = true := by simp; omega
  have wb : ∀ k, wr (c.l_.f k) = c.l_.f k := fun k => wr_ok (by have := hc.b k; omega) (by have := hc.b k; omega)
  have lt : ∀ x : Int, x.tmod n < n := fun x => Int.tmod_lt_of_pos x (by omega)
  rw [e1, e2, get_t (decide_eq_true ⟨by omega, by omega⟩)]
  simp only [wb, e4]
  by_cases c3 : n > 256
  · rw [get_t (decide_eq_true c3)]
    by_cases c4 : c.at_ + 1 < (c.l_.n : Int)
    · rw [get_t (decide_eq_true c4), get_t (decide_eq_true ⟨by omega, c4⟩), get_t e3]
      have q1 := hc.b c.at_.toNat
      have q2 := hc.b (c.at_ + 1).toNat
      have w1 : wr (c.l_.f c.at_.toNat * 256) = c.l_.f c.at_.toNat * 256 := wr_ok (by omega) (by omega)
      have w2 : wr (c.l_.f c.at_.toNat * 256 + c.l_.f (c.at_ + 1).toNat) = c.l_.f c.at_.toNat * 256 + c.l_.f (c.at_ + 1).toNat := wr_ok (by omega) (by omega)
      rw [w1, w2]
      exact ⟨_, _, rfl, by omega, by omega, Int.tmod_nonneg _ (by omega), fun _ => lt _, fun h => by omega⟩
    · rw [get_f (decide_eq_false c4), get_t e3]
      exact ⟨_, _, rfl, by omega, by omega, Int.tmod_nonneg _ (hc.b _).1, fun _ => lt _, fun h => by omega⟩
  · rw [get_f (decide_eq_false c3), get_t e3]
    exact ⟨_, _, rfl, by omega, by omega, Int.tmod_nonneg _ (hc.b _).1, fun _ => lt _, fun h => by omega⟩
theorem Codes_One_ex {c : SCodes} (hc : CdOK c) (n : Int) (hn : n ≤ 1000000) : ∃ v a, Codes_One c n = some (v, a) ∧ 0 ≤ a ∧ a ≤ 300 := by
  obtain ⟨v, a, e, h0, h1, _⟩ := Codes_Next_ex hc n hn
  rw [Codes_One_eq]; unfold Codes_One_t
  rw [get_bind e]
  exact ⟨_, _, rfl, h0, h1⟩
theorem Codes_Range_ex {c : SCodes} (hc : CdOK c) (lo hi : Int) (h : lo ≤ hi) (hl : -10000 ≤ lo) (hh : hi ≤ 10000) : ∃ v a, Codes_Range c lo hi = some (v, a) ∧ 0 ≤ a ∧ a ≤ 300 ∧ lo ≤ v ∧ v ≤ hi := by
  have e1 : wr (hi - lo) = hi - lo := wr_ok (by omega) (by omega)
  have e2 : wr (hi - lo + 1) = hi - lo + 1 := wr_ok (by omega) (by omega)
  obtain ⟨v, a, e, h0, h1, h2, h3, _⟩ := Codes_Next_ex hc (hi - lo + 1) (by omega)
  have h3 := h3 (by omega)
  rw [Codes_Range_eq]; unfold Codes_Range_t
  rw [e1, e2, get_bind e]
  have e3 : wr (lo + v) = lo + v := wr_ok (by omega) (by omega)
  exact ⟨lo + v, a, by rw [DT.get_leaf]; dsimp only; rw [e3], h0, h1, by omega, by omega⟩
structure RdD (r : SRoad) : Prop where
  l0 : 1 ≤ r.Length
  l1 : r.Length ≤ 400
  a0 : 4 ≤ r.Area
  a1 : r.Area ≤ 30
  r0 : 1 ≤ r.Rest.Low
  r1 : r.Rest.Low ≤ r.Rest.High
  r2 : r.Rest.High ≤ 22
theorem Codes_Road_ex {c : SCodes} (hc : CdOK c) (p q : Int) : ∃ r a, Codes_Road c p q = some (r, a) ∧ 0 ≤ a ∧ a ≤ 300 ∧ RdD r ∧ r.From = p ∧ r.To = q ∧ r.Closed = false := by
  obtain ⟨v1, a1, e1, l1, u1, x1, y1⟩ := Codes_Range_ex hc 1 400 (by omega) (by omega) (by omega)
  obtain ⟨v2, a2, e2, l2, u2, x2, y2⟩ := Codes_Range_ex (hc.at l1 u1) 4 30 (by omega) (by omega) (by omega)
  obtain ⟨v3, a3, e3, l3, u3, x3, y3, _⟩ := Codes_Next_ex (hc.at l2 u2) 4 (by omega)
  obtain ⟨v4, a4, e4, l4, u4, x4, y4⟩ := Codes_Range_ex (hc.at l3 u3) 1 20 (by omega) (by omega) (by omega)
  obtain ⟨v5, a5, e5, l5, u5, x5, y5, _⟩ := Codes_Next_ex (hc.at l4 u4) 3 (by omega)
  obtain ⟨v6, a6, e6, l6, u6, x6, y6⟩ := Codes_Range_ex (hc.at l5 u5) (-300) 300 (by omega) (by omega) (by omega)
  obtain ⟨v7, a7, e7, l7, u7, x7, y7, _⟩ := Codes_Next_ex (hc.at l6 u6) 20 (by omega)
  have y5 := y5 (by omega)
  rw [Codes_Road_eq]; unfold Codes_Road_t
  rw [get_bind e1, get_bind e2, get_bind e3, get_bind e4, get_bind e5, get_bind e6, get_bind e7]
  have w5 : wr (v4 + v5) = v4 + v5 := wr_ok (by omega) (by omega)
  refine ⟨_, _, rfl, l7, u7, ⟨x1, y1, x2, y2, x4, ?_, ?_⟩, rfl, rfl, rfl⟩
  · show v4 ≤ wr (v4 + v5); omega
  · show wr (v4 + v5) ≤ 22; omega
theorem blt_t {k n : Nat} (h : k < n) : Nat.blt k n = true := Nat.ble_eq_true_of_le h
theorem blt_f {k n : Nat} (h : n ≤ k) : Nat.blt k n = false := by
  cases hb : Nat.blt k n with
  | false => rfl
  | true => have : k < n := Nat.le_of_ble_eq_true hb; omega
theorem New_ex (l : Sq Int) (h : ∀ k, 0 ≤ l.f k ∧ l.f k ≤ 255) : ∃ c, New l = some c ∧ CdOK c := by
  rw [New_eq]; unfold New_t
  rw [get_t (decide_eq_true (by split <;> omega))]
  refine ⟨_, rfl, ?_, by dsimp only; omega, by dsimp only; omega, h⟩
  dsimp only
  split <;> omega
theorem Mod_ex (k n : Int) (h : n ≤ 1000000000) : ∃ v, Mod k n = some v ∧ (n < 1 → v = 0) ∧ (1 ≤ n → 0 ≤ v ∧ v < n) := by
  rw [Mod_eq]; unfold Mod_t
  by_cases c1 : n < 1
  · rw [get_t (decide_eq_true c1)]; exact ⟨0, rfl, fun _ => rfl, fun h => by omega⟩
  rw [get_f (decide_eq_false c1), get_t (by simp; omega)]
  have h1 := Int.tmod_lt_of_pos k (show 0 < n by omega)
  have h2 : -n < k.tmod n := by
    have e := Int.tmod_lt_of_pos (-k) (show 0 < n by omega)
    rw [Int.neg_tmod] at e
    omega
  by_cases c2 : k.tmod n < 0
  · rw [get_t (decide_eq_true c2)]
    have z1 : wr (k.tmod n + n) = k.tmod n + n := wr_ok (by omega) (by omega)
    exact ⟨_, rfl, fun h => by omega, fun _ => by omega⟩
  · rw [get_f (decide_eq_false c2)]
    exact ⟨_, rfl, fun h => by omega, fun _ => by omega⟩
theorem cond_blt {α : Type} (k n : Nat) (x y : α) : cond (Nat.blt k n) x y = if k < n then x else y := by
  by_cases h : k < n
  · rw [blt_t h, if_pos h]; rfl
  · rw [blt_f (by omega), if_neg h]; rfl
theorem beq_t {k n : Nat} (h : k = n) : Nat.beq k n = true := by subst h; exact Nat.beq_refl k
theorem beq_f {k n : Nat} (h : k ≠ n) : Nat.beq k n = false := by
  cases hb : Nat.beq k n with
  | false => rfl
  | true => exact absurd (Nat.eq_of_beq_eq_true hb) h
theorem road_app {n k : Nat} {R : Nat → SRoad} {r : SRoad} : (SRoad.mk (cond (Nat.blt k n) (R k).From r.From) (cond (Nat.blt k n) (R k).To r.To) (cond (Nat.blt k n) (R k).Length r.Length) (cond (Nat.blt k n) (R k).Area r.Area) (cond (Nat.blt k n) (R k).Walk r.Walk) (cond (Nat.blt k n) (R k).Closed r.Closed) (SSpan.mk (cond (Nat.blt k n) (R k).Rest.Low r.Rest.Low) (cond (Nat.blt k n) (R k).Rest.High r.Rest.High)) (SSpan.mk (cond (Nat.blt k n) (R k).Lift.Low r.Lift.Low) (cond (Nat.blt k n) (R k).Lift.High r.Lift.High))) = if k < n then R k else r := by
  by_cases h : k < n
  · rw [blt_t h, if_pos h]; rfl
  · rw [blt_f (by omega), if_neg h]; rfl
def sumN (g : Nat → Int) : Nat → Int
  | 0 => 0
  | k + 1 => sumN g k + g k
theorem sumN_congr {g g' : Nat → Int} : ∀ {n : Nat}, (∀ i, i < n → g i = g' i) → sumN g n = sumN g' n := by
  intro n
  induction n with
  | zero => intro _; rfl
  | succ n ih => intro h; show sumN g n + g n = sumN g' n + g' n; rw [ih fun i hi => h i (by omega), h n (by omega)]
theorem road_ends {m : SMine} (h : MineOK m) {i : Nat} (hi : i < m.Roads.n) : 0 ≤ (m.Roads.f i).From ∧ (m.Roads.f i).From < m.Places.n ∧ 0 ≤ (m.Roads.f i).To ∧ (m.Roads.f i).To < m.Places.n ∧ (m.Roads.f i).From ≠ (m.Roads.f i).To := by
  have := h.r i hi
  unfold roadE at this
  repeat' (split at this; · omega)
  omega
/-- A road that ends at a place. -/
def adj (r : SRoad) (pl : Int) : Prop := r.From = pl ∨ r.To = pl
instance (r : SRoad) (pl : Int) : Decidable (adj r pl) := inferInstanceAs (Decidable (_ ∨ _))
structure RdsOK (R : Sq SRoad) (pl : Int) (k : Nat) (l : Sq Int) : Prop where
  n : l.n ≤ k
  f : ∀ j, j < l.n → 0 ≤ l.f j ∧ l.f j < k ∧ adj (R.f (l.f j).toNat) pl
  up : ∀ j j', j < j' → j' < l.n → l.f j < l.f j'
  s : ∀ g : Nat → Int, sumN (fun j => g (l.f j).toNat) l.n = sumN (fun i => if adj (R.f i) pl then g i else 0) k
  c : ∀ i, i < k → adj (R.f i) pl → ∃ j, j < l.n ∧ l.f j = i
theorem RdsOK.add {R : Sq SRoad} {pl : Int} {k : Nat} {l l' : Sq Int} (h : RdsOK R pl k l) (hk : adj (R.f k) pl) (hn : l'.n = l.n + 1) (hf : ∀ j, l'.f j = if j < l.n then l.f j else (k : Int)) : RdsOK R pl (k + 1) l' := by
  have n0 := h.n
  have e1 : ∀ j, j < l.n → l'.f j = l.f j := fun j hj => by rw [hf, if_pos hj]
  have e2 : l'.f l.n = k := by rw [hf, if_neg (by omega)]
  refine ⟨by omega, fun j hj => ?_, fun j j' h1 h2 => ?_, fun g => ?_, fun i hi ha => ?_⟩
  · by_cases c : j < l.n
    · rw [e1 j c]; have := h.f j c; exact ⟨this.1, by omega, this.2.2⟩
    · obtain rfl : j = l.n := by omega
      rw [e2]; exact ⟨by omega, by omega, hk⟩
  · by_cases c : j' < l.n
    · rw [e1 j (by omega), e1 j' c]; exact h.up j j' h1 c
    · obtain rfl : j' = l.n := by omega
      rw [e1 j h1, e2]; have := h.f j h1; omega
  · rw [hn]
    show sumN (fun j => g (l'.f j).toNat) l.n + g (l'.f l.n).toNat = sumN (fun i => if adj (R.f i) pl then g i else 0) k + (if adj (R.f k) pl then g k else 0)
    rw [e2, if_pos hk, ← h.s g, sumN_congr (g := fun j => g (l'.f j).toNat) (g' := fun j => g (l.f j).toNat) fun j hj => congrArg (fun z : Int => g z.toNat) (e1 j hj)]
    rfl
  · by_cases c : i < k
    · obtain ⟨j, h1, h2⟩ := h.c i c ha
      exact ⟨j, by omega, by rw [e1 j h1]; exact h2⟩
    · obtain rfl : i = k := by omega
      exact ⟨l.n, by omega, e2⟩
theorem RdsOK.skip {R : Sq SRoad} {pl : Int} {k : Nat} {l : Sq Int} (h : RdsOK R pl k l) (hk : ¬ adj (R.f k) pl) : RdsOK R pl (k + 1) l := by
  have n0 := h.n
  refine ⟨by omega, fun j hj => by have := h.f j hj; exact ⟨this.1, by omega, this.2.2⟩, h.up, fun g => ?_, fun i hi ha => ?_⟩
  · show _ = sumN (fun i => if adj (R.f i) pl then g i else 0) k + (if adj (R.f k) pl then g k else 0)
    rw [if_neg hk, ← h.s g, Int.add_zero]
  · by_cases c : i < k
    · exact h.c i c ha
    · obtain rfl : i = k := by omega
      exact absurd ha hk
theorem plan_Roads_ex {m : SMine} (hm : m.Roads.n ≤ 128) (pl : Int) : ∃ l, plan_Roads m pl = some l ∧ RdsOK m.Roads pl m.Roads.n l := by
  have key := loop_ex (step := fun v : Sq Int × Int => plan_Roads_l3_step pl m.Roads v.1 v.2)
    (fun v => ∃ i : Nat, v.2 = i ∧ i ≤ m.Roads.n ∧ RdsOK m.Roads pl i v.1) (fun v => m.Roads.n - v.2.toNat)
    (fun z => ∃ y, z = .inl y ∧ RdsOK m.Roads pl m.Roads.n y) (fun v hv => by
      obtain ⟨l, x⟩ := v
      obtain ⟨i, rfl, hi, h⟩ := hv
      have n0 := h.n
      dsimp only at n0 ⊢
      unfold plan_Roads_l3_step
      by_cases c : i < m.Roads.n
      · rw [get_t (dlt c), get_t (dix c), toNat_nat, wr_next (by omega)]
        have hg : decide ((l.n + 1) * 8 ≤ 140737488355328 ∧ (l.n + 1) ≤ 1099511627776) = true := decide_eq_true ⟨by omega, by omega⟩
        by_cases cF : (m.Roads.f i).From = pl
        · rw [get_t (by simpa using cF), get_t hg]
          exact ⟨_, rfl, ⟨i + 1, rfl, by omega, h.add (.inl cF) rfl fun j => cond_blt _ _ _ _⟩, by dsimp only; omega⟩
        · rw [get_f (by simpa using cF)]
          by_cases cT : (m.Roads.f i).To = pl
          · rw [get_t (by simpa using cT), get_t hg]
            exact ⟨_, rfl, ⟨i + 1, rfl, by omega, h.add (.inr cT) rfl fun j => cond_blt _ _ _ _⟩, by dsimp only; omega⟩
          · rw [get_f (by simpa using cT)]
            exact ⟨_, rfl, ⟨i + 1, rfl, by omega, h.skip fun q => q.elim cF cT⟩, by dsimp only; omega⟩
      · obtain rfl : i = m.Roads.n := by omega
        rw [get_f (dge (Nat.le_refl _))]
        exact ⟨_, rfl, _, rfl, h⟩)
    (⟨0, fun _ => 0⟩, 0) ⟨0, rfl, by omega, Nat.le_refl _, fun j hj => absurd hj (Nat.not_lt_zero _), fun j j' _ hj => absurd hj (Nat.not_lt_zero _), fun g => rfl, fun i hi _ => absurd hi (Nat.not_lt_zero _)⟩
  obtain ⟨z, hz, y, rfl, g⟩ := key
  rw [plan_Roads_eq]; unfold plan_Roads_t
  rw [get_sum (by rw [plan_Roads_l3_eq]; exact hz)]
  exact ⟨_, rfl, g⟩
theorem plan_Other_v {m : SMine} (hm : m.Roads.n ≤ 128) {j : Nat} (hj : j < m.Roads.n) {pl : Int} (h : adj (m.Roads.f j) pl) : plan_Other m j pl = some (if (m.Roads.f j).From = pl then (m.Roads.f j).To else (m.Roads.f j).From) := by
  have e : plan_hasRoad m j = some true := by
    rw [plan_hasRoad_eq]; unfold plan_hasRoad_t
    rw [last_nat2 (by omega) (by omega), get_bind (plan_within_v _ _ _), decide_eq_true (by omega)]; rfl
  rw [plan_Other_eq]; unfold plan_Other_t
  rw [get_bind e, get_f (b := !true) rfl, get_t (dix hj), toNat_nat]
  by_cases c : (m.Roads.f j).From = pl
  · rw [get_t (by simpa using c.symm), if_pos c]; rfl
  · have c2 : (m.Roads.f j).To = pl := h.resolve_left c
    rw [get_f (by simpa using fun q : pl = _ => c q.symm), get_t (by simpa using c2.symm), if_neg c]; rfl
end Go.Proofs.Ytkgcicbipcifdaa.Ab
