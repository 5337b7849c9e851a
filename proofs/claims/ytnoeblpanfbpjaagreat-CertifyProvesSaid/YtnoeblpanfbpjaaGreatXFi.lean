/- Stage 11: Fits, by the program; what is made fits. -/
import Derived.Test.YtnoeblpanfbpjaaGreatXH
import Derived.Test.YtnoeblpanfbpjaaGreatXlg
import Derived.Test.YtnoeblpanfbpjaaGreatXkf
namespace Go.Proofs.YtnoeblpanfbpjaaGreat.Ab
open Go

def gW (l : Sq Int) (m : Int) (i : Nat) : Option Unit := if -m ≤ l.f i ∧ l.f i ≤ m then none else some ()
theorem branch_reachTo_v (l : Sq Int) (m : Int) (h : l.n ≤ 1000) (m0 : 0 ≤ m) (m1 : m ≤ 1000000000000000) : branch_reachTo l m = some (firstN (gW l m) l.n 0).isNone := by
  rw [branch_reachTo_eq]; unfold branch_reachTo_t
  have key : branch_reachTo_l2 m l 0 = some (sumO (firstN (gW l m) l.n 0)) := by
    rw [branch_reachTo_l2_eq, ← sumO_eq]
    refine loop_first (step := fun v => branch_reachTo_l2_step m l v) (gW l m) (fun i hi => ?_) ?_ l.n 0 (Nat.zero_add _)
    · unfold branch_reachTo_l2_step gW
      rw [get_t (dlt hi), get_t (dix hi), toNat_nat, wr_ok (x := 0 - m) (by omega) (by omega), show (0 : Int) - m = -m by omega, get_bind (branch_within_v _ _ _), wr_next (by omega)]
      by_cases c : -m ≤ l.f i ∧ l.f i ≤ m
      · rw [get_f (by simp only [decide_eq_true c, Bool.not_true]), if_pos c]; rfl
      · rw [get_t (by simp only [decide_eq_false c, Bool.not_false]), if_neg c]; rfl
    · unfold branch_reachTo_l2_step
      rw [get_f (dge (Nat.le_refl _))]; rfl
  rw [get_sum key]
  cases firstN (gW l m) l.n 0 <;> rfl
def calmP (P : Sq SPlace) (p : Sq Int) (i : Nat) : Prop := (P.f i).Surface = true → p.f i = 0
def sumP (P : Sq SPlace) (R : Sq SRoad) (q : Sq Int) (i : Nat) : Prop := (P.f i).Surface = false → net R q i R.n = 0
def roadP (a : SAir) (s : SSetting) (x : SState) (j : Nat) : Prop := ((a.Mine.Roads.f j).Closed = true → x.Flows.f j = 0) ∧ ((a.Mine.Roads.f j).Closed = false →
  (dropP a s j (x.Flows.f j)).1 ≤ x.Pressures.f (a.Mine.Roads.f j).From.toNat - x.Pressures.f (a.Mine.Roads.f j).To.toNat ∧ x.Pressures.f (a.Mine.Roads.f j).From.toNat - x.Pressures.f (a.Mine.Roads.f j).To.toNat ≤ (dropP a s j (x.Flows.f j)).2)
open Classical in
noncomputable def gP' (Q : Nat → Prop) (i : Nat) : Option Unit := if Q i then none else some ()
theorem gP'_none {Q : Nat → Prop} {n : Nat} : (firstN (gP' Q) n 0).isNone = true ↔ ∀ i, i < n → Q i := by
  constructor
  · intro h i hi
    have := firstN_none (by simpa using h) i (Nat.zero_le _) (by omega : i < 0 + n)
    unfold gP' at this
    split at this
    · assumption
    · cases this
  · intro h
    rw [firstN_all fun j _ hj => by unfold gP'; rw [if_pos (h j (by omega))]]; rfl
structure Bds (a : SAir) (s : SSetting) (x : SState) : Prop where
  r : rightB a s = true
  p : x.Pressures.n = a.Mine.Places.n
  q : x.Flows.n = a.Mine.Roads.n
  pb : ∀ i, i < x.Pressures.n → -70368744177664 ≤ x.Pressures.f i ∧ x.Pressures.f i ≤ 70368744177664
  qb : ∀ i, i < x.Flows.n → -1048576 ≤ x.Flows.f i ∧ x.Flows.f i ≤ 1048576
theorem calm_v (m : SMine) (p : Sq Int) (h : p.n = m.Places.n) (hn : m.Places.n ≤ 64) : branch_surfaceIsCalm m p = some (firstN (gP' (calmP m.Places p)) m.Places.n 0).isNone := by
  rw [branch_surfaceIsCalm_eq]; unfold branch_surfaceIsCalm_t
  have key : branch_surfaceIsCalm_l2 p m.Places 0 = some (sumO (firstN (gP' (calmP m.Places p)) m.Places.n 0)) := by
    rw [branch_surfaceIsCalm_l2_eq, ← sumO_eq]
    refine loop_first (step := fun v => branch_surfaceIsCalm_l2_step p m.Places v) (gP' (calmP m.Places p)) (fun i hi => ?_) ?_ m.Places.n 0 (Nat.zero_add _)
    · unfold branch_surfaceIsCalm_l2_step gP' calmP
      rw [get_t (dlt hi), get_t (dix hi), toNat_nat, wr_next (by omega)]
      cases hs : (m.Places.f i).Surface with
      | true =>
        rw [get_t rfl, get_t (dix (by omega))]
        by_cases c : p.f i = 0
        · rw [get_f (by simp [c]), if_pos (fun _ => c)]; rfl
        · rw [get_t (by simp [c]), if_neg (fun q => c (q rfl))]; rfl
      | false => rw [get_f rfl, if_pos (fun q => by cases q)]; rfl
    · unfold branch_surfaceIsCalm_l2_step
      rw [get_f (dge (Nat.le_refl _))]; rfl
  rw [get_sum key]
  cases firstN (gP' (calmP m.Places p)) m.Places.n 0 <;> rfl
theorem fit_v {a : SAir} {s : SSetting} {x : SState} (h : Bds a s x) : branch_flowsFit a s x = some (firstN (gP' (roadP a s x)) a.Mine.Roads.n 0).isNone := by
  have ok := right_ok h.r
  have hnr := ok.m.nr
  have hp := h.p
  have hq := h.q
  rw [branch_flowsFit_eq]; unfold branch_flowsFit_t
  have key : branch_flowsFit_l2 a.Mine.Roads a.Mine.Places a.Fans a.Doors s.Fans s.Doors x.Pressures x.Flows 0 = some (sumO (firstN (gP' (roadP a s x)) a.Mine.Roads.n 0)) := by
    rw [branch_flowsFit_l2_eq, ← sumO_eq]
    refine loop_first (step := fun v => branch_flowsFit_l2_step a.Mine.Roads a.Mine.Places a.Fans a.Doors s.Fans s.Doors x.Pressures x.Flows v) (gP' (roadP a s x)) (fun i hi => ?_) ?_ a.Mine.Roads.n 0 (Nat.zero_add _)
    · unfold branch_flowsFit_l2_step gP'
      rw [get_t (dlt hi), get_t (dix hi), toNat_nat, wr_next (by omega)]
      cases hs : (a.Mine.Roads.f i).Closed with
      | true =>
        rw [get_t rfl, get_t (dix (by omega))]
        by_cases c : x.Flows.f i = 0
        · rw [get_f (by simp [c]), if_pos (show roadP a s x i from ⟨fun _ => c, fun q => by { rw [hs] at q; cases q }⟩)]; rfl
        · rw [get_t (by simp [c]), if_neg (show ¬ roadP a s x i from fun q => c (q.1 hs))]; rfl
      | false =>
        obtain ⟨w, e, aw⟩ := branch_airwayOf_ex ok hi
        have qb := h.qb i (by omega)
        obtain ⟨_, _, _, _, _, _, f0, f1, g0, g1⟩ := road_rest ok.m hi
        have pF := h.pb (a.Mine.Roads.f i).From.toNat (by omega)
        have pT := h.pb (a.Mine.Roads.f i).To.toNat (by omega)
        rw [get_f rfl, get_bind e, get_t (dix (by omega)), get_bind (airway_drop_v ok hi aw (by omega) (by omega)), get_t (decide_eq_true ⟨by omega, by omega⟩), get_t (decide_eq_true ⟨by omega, by omega⟩), wr_ok (x := x.Pressures.f (a.Mine.Roads.f i).From.toNat - x.Pressures.f (a.Mine.Roads.f i).To.toNat) (by omega) (by omega), get_bind (branch_within_v _ _ _)]
        by_cases c : (spS (dropP a s i (x.Flows.f i))).Low ≤ x.Pressures.f (a.Mine.Roads.f i).From.toNat - x.Pressures.f (a.Mine.Roads.f i).To.toNat ∧ x.Pressures.f (a.Mine.Roads.f i).From.toNat - x.Pressures.f (a.Mine.Roads.f i).To.toNat ≤ (spS (dropP a s i (x.Flows.f i))).High
        · rw [get_f (by simp only [decide_eq_true c, Bool.not_true]), if_pos (show roadP a s x i from ⟨fun q => by { rw [hs] at q; cases q }, fun _ => c⟩)]; rfl
        · rw [get_t (by simp only [decide_eq_false c, Bool.not_false]), if_neg (show ¬ roadP a s x i from fun q => c (q.2 hs))]; rfl
    · unfold branch_flowsFit_l2_step
      rw [get_f (dge (Nat.le_refl _))]; rfl
  rw [get_sum key]
  cases firstN (gP' (roadP a s x)) a.Mine.Roads.n 0 <;> rfl
/-- Sums of flows, as they are told. -/
structure NtS (R : Sq SRoad) (q N : Sq Int) (n k : Nat) : Prop where
  nn : N.n = n
  e : ∀ i, i < n → N.f i = net R q i k
theorem net_in {R : Sq SRoad} {q : Sq Int} (i : Int) : ∀ k, (∀ j, j < k → -1048576 ≤ q.f j ∧ q.f j ≤ 1048576) → -(2097152 * (k : Int)) ≤ net R q i k ∧ net R q i k ≤ 2097152 * (k : Int) := by
  intro k
  induction k with
  | zero => intro _; show -(2097152 * ((0 : Nat) : Int)) ≤ 0 ∧ (0 : Int) ≤ _; omega
  | succ k ih =>
    intro h
    have i := ih fun j hj => h j (by omega)
    have q := h k (by omega)
    rw [net_succ]
    split <;> split <;> omega
theorem NtS.next {R : Sq SRoad} {q N : Sq Int} {n k : Nat} (h : NtS R q N n k) (hk : k ≤ 128) (hq : ∀ j, j < k + 1 → -1048576 ≤ q.f j ∧ q.f j ≤ 1048576) (f0 : 0 ≤ (R.f k).From) (f1 : (R.f k).From < n) (t0 : 0 ≤ (R.f k).To) (t1 : (R.f k).To < n) (ne : (R.f k).From ≠ (R.f k).To) :
    NtS R q ⟨N.n, fun j => cond (Nat.beq j (R.f k).To.toNat) (wr ((cond (Nat.beq (R.f k).To.toNat (R.f k).From.toNat) (wr (N.f (R.f k).From.toNat + q.f k)) (N.f (R.f k).To.toNat)) - q.f k)) (cond (Nat.beq j (R.f k).From.toNat) (wr (N.f (R.f k).From.toNat + q.f k)) (N.f j))⟩ n (k + 1) := by
  refine ⟨h.nn, fun i hi => ?_⟩
  have bq := hq k (by omega)
  have nb := fun i => net_in (R := R) (q := q) i k fun j hj => hq j (by omega)
  have eF := h.e (R.f k).From.toNat (by omega)
  have eT := h.e (R.f k).To.toNat (by omega)
  have bF := nb ((R.f k).From.toNat : Nat)
  have bT := nb ((R.f k).To.toNat : Nat)
  dsimp only
  rw [net_succ, beq_f (k := (R.f k).To.toNat) (n := (R.f k).From.toNat) (by omega)]
  simp only [cond_false]
  rw [wr_ok (x := N.f (R.f k).From.toNat + q.f k) (by omega) (by omega), wr_ok (x := N.f (R.f k).To.toNat - q.f k) (by omega) (by omega)]
  by_cases cT : i = (R.f k).To.toNat
  · rw [beq_t cT, if_neg (show ¬ (R.f k).From = i by omega), if_pos (show (R.f k).To = i by omega), ← h.e i hi]
    simp only [cond_true]
    rw [← cT]; omega
  · rw [beq_f cT, if_neg (show ¬ (R.f k).To = i by omega), ← h.e i hi]
    simp only [cond_false]
    by_cases cF : i = (R.f k).From.toNat
    · rw [beq_t cF, if_pos (show (R.f k).From = i by omega)]
      simp only [cond_true]
      rw [← cF]; omega
    · rw [beq_f cF, if_neg (show ¬ (R.f k).From = i by omega)]
      simp only [cond_false]
      omega
theorem road_ne {m : SMine} (h : MineOK m) {i : Nat} (hi : i < m.Roads.n) : (m.Roads.f i).From ≠ (m.Roads.f i).To := by
  have := h.r i hi
  unfold roadE at this
  repeat' (split at this; · omega)
  omega
theorem addUp_v {a : SAir} {s : SSetting} {x : SState} (h : Bds a s x) : branch_flowsAddUp a.Mine x.Flows = some (firstN (gP' (sumP a.Mine.Places a.Mine.Roads x.Flows)) a.Mine.Places.n 0).isNone := by
  have ok := right_ok h.r
  have hnr := ok.m.nr
  have hnp := ok.m.np
  have hq := h.q
  rw [branch_flowsAddUp_eq]; unfold branch_flowsAddUp_t
  have key := loop_ex (step := fun v : Sq Int × Int => branch_flowsAddUp_l3_step x.Flows a.Mine.Roads a.Mine.Places v.1 v.2)
    (fun v => ∃ k : Nat, v.2 = k ∧ k ≤ a.Mine.Roads.n ∧ NtS a.Mine.Roads x.Flows v.1 a.Mine.Places.n k) (fun v => a.Mine.Roads.n - v.2.toNat)
    (fun z => ∃ N, z = .inl N ∧ NtS a.Mine.Roads x.Flows N a.Mine.Places.n a.Mine.Roads.n) (fun v hv => by
      obtain ⟨N, _⟩ := v
      obtain ⟨k, rfl, hk, hN⟩ := hv
      dsimp only at hN ⊢
      have hn := hN.nn
      unfold branch_flowsAddUp_l3_step
      by_cases hi : k < a.Mine.Roads.n
      · obtain ⟨_, _, _, _, _, _, f0, f1, g0, g1⟩ := road_rest ok.m hi
        rw [get_t (dlt hi), get_t (dix hi), toNat_nat, wr_next (by omega), get_t (decide_eq_true ⟨by omega, by omega⟩), get_t (dix (by omega)), get_t (decide_eq_true ⟨by omega, by omega⟩), get_t (decide_eq_true ⟨by omega, by omega⟩), get_t (dix (by omega)), get_t (decide_eq_true ⟨by omega, by omega⟩)]
        exact ⟨_, rfl, ⟨k + 1, rfl, by omega, hN.next (by omega) (fun j hj => h.qb j (by omega)) f0 f1 g0 g1 (road_ne ok.m hi)⟩, by dsimp only; omega⟩
      · obtain rfl : k = a.Mine.Roads.n := by omega
        rw [get_f (dge (Nat.le_refl _))]
        exact ⟨_, rfl, N, rfl, hN⟩)
    (⟨a.Mine.Places.n, fun _ => 0⟩, 0) ⟨0, rfl, Nat.zero_le _, rfl, fun i _ => rfl⟩
  obtain ⟨z, hz, N, rfl, hN⟩ := key
  have hn := hN.nn
  rw [get_t (decide_eq_true ⟨by omega, by omega, by omega, by omega⟩), toNat_nat, get_sum (by rw [branch_flowsAddUp_l3_eq]; exact hz)]
  dsimp only [Sum.elim]
  have key2 : branch_flowsAddUp_l9 a.Mine.Places N 0 = some (sumO (firstN (gP' (sumP a.Mine.Places a.Mine.Roads x.Flows)) a.Mine.Places.n 0)) := by
    rw [branch_flowsAddUp_l9_eq, ← sumO_eq]
    refine loop_first (step := fun v => branch_flowsAddUp_l9_step a.Mine.Places N v) (gP' (sumP a.Mine.Places a.Mine.Roads x.Flows)) (fun i hi => ?_) ?_ a.Mine.Places.n 0 (Nat.zero_add _)
    · unfold branch_flowsAddUp_l9_step gP' sumP
      rw [get_t (dlt hi), get_t (dix hi), toNat_nat, wr_next (by omega), ← hN.e i hi]
      cases hs : (a.Mine.Places.f i).Surface with
      | true => rw [get_f (b := !true) rfl, if_pos (fun q => by cases q)]; rfl
      | false =>
        rw [get_t (b := !false) rfl, get_t (dix (by omega))]
        by_cases c : N.f i = 0
        · rw [get_f (by simp [c]), if_pos (fun _ => c)]; rfl
        · rw [get_t (by simp [c]), if_neg (fun q => c (q rfl))]; rfl
    · unfold branch_flowsAddUp_l9_step
      rw [get_f (dge (Nat.le_refl _))]; rfl
  rw [get_sum key2]
  cases firstN (gP' (sumP a.Mine.Places a.Mine.Roads x.Flows)) a.Mine.Places.n 0 <;> rfl
open Classical in
/-- The error of a state. -/
noncomputable def fitsE (a : SAir) (s : SSetting) (x : SState) : Int :=
  if airE a ≠ 0 then airE a else if rightB a s = false then 21 else if x.Pressures.n ≠ a.Mine.Places.n then 11 else if x.Flows.n ≠ a.Mine.Roads.n then 11
  else if firstN (gW x.Pressures 70368744177664) x.Pressures.n 0 ≠ none then 1 else if firstN (gW x.Flows 1048576) x.Flows.n 0 ≠ none then 1
  else if (∀ i, i < a.Mine.Places.n → calmP a.Mine.Places x.Pressures i) ∧ (∀ j, j < a.Mine.Roads.n → roadP a s x j) ∧ ∀ i, i < a.Mine.Places.n → sumP a.Mine.Places a.Mine.Roads x.Flows i then 0 else 10
theorem gW_none {l : Sq Int} {m : Int} (h : firstN (gW l m) l.n 0 = none) : ∀ i, i < l.n → -m ≤ l.f i ∧ l.f i ≤ m := by
  intro i hi
  have := firstN_none h i (Nat.zero_le _) (by omega)
  unfold gW at this
  split at this
  · assumption
  · cases this
theorem unit_none {o : Option Unit} (h : o ≠ none) : o.isNone = false := by cases o with
  | none => exact absurd rfl h
  | some u => rfl
theorem unit_sum {o : Option Unit} (h : o ≠ none) : sumO o = .inr () := by cases o with
  | none => exact absurd rfl h
  | some u => rfl
theorem not_gP' {Q : Nat → Prop} {n : Nat} (h : ¬ ∀ i, i < n → Q i) : (firstN (gP' Q) n 0).isNone = false := by
  cases e : (firstN (gP' Q) n 0).isNone with
  | false => rfl
  | true => exact absurd (gP'_none.1 e) h
theorem branch_Fits_v (a : SAir) (s : SSetting) (x : SState) : branch_Fits a s x = some (fitsE a s x) := by
  rw [branch_Fits_eq]; unfold branch_Fits_t fitsE
  rw [get_bind (branch_Check_v a)]
  by_cases h1 : ¬ (airE a = 0)
  · rw [get_t (by simp [h1]), if_pos h1]; rfl
  have h1 := Classical.not_not.1 h1
  rw [get_f (by simp [h1]), if_neg (not_not_intro h1), get_bind (branch_belongs_v a s h1)]
  cases h2 : rightB a s with
  | false => rw [get_t (b := !false) rfl, if_pos rfl]; rfl
  | true =>
    have ok := right_ok h2
    have hnp := ok.m.np
    have hnr := ok.m.nr
    rw [get_f (b := !true) rfl, if_neg (by simp)]
    by_cases h3 : ¬ (x.Pressures.n = a.Mine.Places.n)
    · rw [get_t (by simp; omega), if_pos h3]; rfl
    have h3 := Classical.not_not.1 h3
    rw [get_f (by simp [h3]), if_neg (not_not_intro h3)]
    by_cases h4 : ¬ (x.Flows.n = a.Mine.Roads.n)
    · rw [get_t (by simp; omega), if_pos h4]; rfl
    have h4 := Classical.not_not.1 h4
    rw [get_f (by simp [h4]), if_neg (not_not_intro h4), get_bind (branch_reachTo_v _ _ (by omega) (by omega) (by omega))]
    by_cases h5 : ¬ (firstN (gW x.Pressures 70368744177664) x.Pressures.n 0 = none)
    · rw [unit_none h5, get_t (b := !false) rfl, if_pos h5]; rfl
    have h5 := Classical.not_not.1 h5
    rw [h5, get_f (b := !(none : Option Unit).isNone) rfl, if_neg (not_not_intro rfl), get_bind (branch_reachTo_v _ _ (by omega) (by omega) (by omega))]
    by_cases h6 : ¬ (firstN (gW x.Flows 1048576) x.Flows.n 0 = none)
    · rw [unit_none h6, get_t (b := !false) rfl, if_pos h6]; rfl
    have h6 := Classical.not_not.1 h6
    have B : Bds a s x := ⟨h2, h3, h4, gW_none h5, gW_none h6⟩
    rw [h6, get_f (b := !(none : Option Unit).isNone) rfl, if_neg (not_not_intro rfl), get_bind (calm_v a.Mine x.Pressures h3 hnp)]
    by_cases h7 : ¬ (∀ i, i < a.Mine.Places.n → calmP a.Mine.Places x.Pressures i)
    · rw [not_gP' h7, get_t (b := !false) rfl, if_neg (fun q => h7 q.1)]; rfl
    have h7 := Classical.not_not.1 h7
    rw [gP'_none.2 h7, get_f (b := !true) rfl, get_bind (fit_v B)]
    by_cases h8 : ¬ (∀ j, j < a.Mine.Roads.n → roadP a s x j)
    · rw [not_gP' h8, get_t (b := !false) rfl, if_neg (fun q => h8 q.2.1)]; rfl
    have h8 := Classical.not_not.1 h8
    rw [gP'_none.2 h8, get_f (b := !true) rfl, get_bind (addUp_v B)]
    by_cases h9 : ¬ (∀ i, i < a.Mine.Places.n → sumP a.Mine.Places a.Mine.Roads x.Flows i)
    · rw [not_gP' h9, get_t (b := !false) rfl, if_neg (fun q => h9 q.2.2)]; rfl
    have h9 := Classical.not_not.1 h9
    rw [gP'_none.2 h9, get_f (b := !true) rfl, if_pos ⟨h7, h8, h9⟩]; rfl
theorem MdD.zero {a : SAir} {s : SSetting} {x : SState} (h : MdD a s x) : fitsE a s x = 0 := by
  obtain ⟨sh, s0, _, _, hP, hp, hq, hE, _⟩ := h.e
  have hqn := hq.qn
  have hpn := hp.nn
  unfold fitsE
  rw [if_neg (not_not_intro (hE.air h.mine)), if_neg (by rw [h.right]; simp), if_neg (not_not_intro hpn), if_neg (not_not_intro hqn), firstN_all fun i _ hi => ?_, if_neg (not_not_intro rfl), firstN_all fun i _ hi => ?_, if_neg (not_not_intro rfl), if_pos]
  · refine ⟨fun i hi c => ?_, fun j hj => ⟨fun c => ?_, fun _ => h.fits hj⟩, fun i hi c => ?_⟩
    · rw [(hP.f i hi).1] at c
      exact hp.z i (Nat.le_of_ble_eq_true c)
    · exact (hq.r j hj).z c
    · rw [(hP.f i hi).1] at c
      refine hq.e i ?_ hi
      by_cases d : i < sh
      · rw [blt_t d] at c; cases c
      · omega
  · unfold gW
    have := (hq.r i (by omega)).q0
    have := (hq.r i (by omega)).q1
    rw [if_pos (by omega)]
  · unfold gW
    have := hp.f i (by omega)
    rw [if_pos (by omega)]
theorem MdD.fit {a : SAir} {s : SSetting} {x : SState} (h : MdD a s x) : FitOK a s x.Pressures x.Flows := by
  have z := h.zero
  unfold fitsE at z
  split at z
  · rename_i c; exact absurd z c
  · split at z
    · cases z
    · split at z
      · cases z
      · split at z
        · cases z
        · rename_i h4
          split at z
          · cases z
          · split at z
            · cases z
            · rename_i h6
              have qb := gW_none (Classical.not_not.1 h6)
              split at z
              · rename_i q
                exact ⟨fun i hi e => q.1 i hi e, fun j hj e => (q.2.1 j hj).2 e, fun j hj e => (q.2.1 j hj).1 e, fun j hj => qb j (by omega), fun i hi e => q.2.2 i hi e⟩
              · cases z
end Go.Proofs.YtnoeblpanfbpjaaGreat.Ab
