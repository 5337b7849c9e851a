/- Stage 3: times, least times, the sanity check. -/
import Derived.Test.YtfedelfcdjldlaaDoorN3w
namespace Go.Proofs.YtfedelfcdjldlaaDoor.Ab
open Go

/-! ### Times -/
def secP (m : SMine) (k : Int) (back : Bool) (u d l : Int) : Int :=
  if 0 ≤ k ∧ k < m.Roads.n then (if ((m.Roads.f k.toNat).Walk && !(m.Roads.f k.toNat).Closed) = true then
    (match back with
      | true => pSec u d l (m.Roads.f k.toNat).Length (hg m (m.Roads.f k.toNat).From - hg m (m.Roads.f k.toNat).To)
      | false => pSec u d l (m.Roads.f k.toNat).Length (hg m (m.Roads.f k.toNat).To - hg m (m.Roads.f k.toNat).From)) else -1) else -1
theorem walk_seconds_v {m : SMine} (ok : MineOK m) (k : Int) (back : Bool) {u d l : Int} (hu : 1 ≤ u ∧ u ≤ 100) (hd : 1 ≤ d ∧ d ≤ 100) (hl : 1 ≤ l ∧ l ≤ 100) : walk_seconds m k back ⟨u, d, l⟩ = some (secP m k back u d l) := by
  have hv : plan_Valid m = some true := by rw [plan_Valid_v, decide_eq_true ((mineE_ok m).2 ok)]
  rw [walk_seconds_eq]; unfold walk_seconds_t secP
  rw [get_bind hv, get_f (b := !true) rfl]
  by_cases c1 : k < 0
  · rw [get_t (decide_eq_true c1), if_neg fun h => by omega]; rfl
  rw [get_f (decide_eq_false c1)]
  by_cases c2 : k ≥ m.Roads.n
  · rw [get_t (decide_eq_true c2), if_neg fun h => by omega]; rfl
  have hk : 0 ≤ k ∧ k < m.Roads.n := by omega
  rw [get_f (decide_eq_false c2), get_t (decide_eq_true hk), if_pos hk, get_bind (walk_walked_v _)]
  obtain ⟨e1, e2, e3, e4, _⟩ := road_ends ok (show k.toNat < m.Roads.n by omega)
  have hlen := road_len ok (show k.toNat < m.Roads.n by omega)
  have g1 := hg_le ok e1 e2
  have g2 := hg_le ok e3 e4
  cases hw : (m.Roads.f k.toNat).Walk && !(m.Roads.f k.toNat).Closed with
  | false => rw [get_t (b := !false) rfl, if_neg (by simp)]; rfl
  | true =>
    rw [get_f (b := !true) rfl, get_t (decide_eq_true hk), if_pos rfl]
    cases back with
    | true => rw [get_t rfl, get_bind (walk_rise_v ok e3 e4 e1 e2), get_bind (pace_v hu hd hl hlen (by omega))]; rfl
    | false => rw [get_f rfl, get_bind (walk_rise_v ok e1 e2 e3 e4), get_bind (pace_v hu hd hl hlen (by omega))]; rfl
theorem ref03_walked_v {m : SMine} (ok : MineOK m) (k : Int) (back : Bool) {u d l : Int} (hu : 1 ≤ u ∧ u ≤ 100) (hd : 1 ≤ d ∧ d ≤ 100) (hl : 1 ≤ l ∧ l ≤ 100) : ref03_walked m k back u d l = some (secP m k back u d l) := by
  have hv : ref01_Check m = some 0 := by rw [ref01_Check_v, (mineE_ok m).2 ok]
  rw [ref03_walked_eq]; unfold ref03_walked_t secP
  rw [get_bind hv, get_f (b := (0 : Int) != 0) rfl]
  by_cases c1 : k < 0
  · rw [get_t (decide_eq_true c1), if_neg fun h => by omega]; rfl
  rw [get_f (decide_eq_false c1)]
  by_cases c2 : k ≥ m.Roads.n
  · rw [get_t (decide_eq_true c2), if_neg fun h => by omega]; rfl
  have hk : 0 ≤ k ∧ k < m.Roads.n := by omega
  rw [get_f (decide_eq_false c2), get_t (decide_eq_true hk), if_pos hk]
  obtain ⟨e1, e2, e3, e4, _⟩ := road_ends ok (show k.toNat < m.Roads.n by omega)
  have hlen := road_len ok (show k.toNat < m.Roads.n by omega)
  cases hc : (m.Roads.f k.toNat).Closed with
  | true => rw [get_t rfl, if_neg (by simp)]; rfl
  | false =>
    rw [get_f rfl, get_t (decide_eq_true hk)]
    cases hw : (m.Roads.f k.toNat).Walk with
    | false => rw [get_t (b := !false) rfl, if_neg (by simp)]; rfl
    | true =>
      rw [get_f (b := !true) rfl, get_t (decide_eq_true hk), if_pos (show (true && !false) = true from rfl)]
      have main : ∀ a b : Int, 0 ≤ a → a < m.Places.n → 0 ≤ b → b < m.Places.n → ref03_ends (m.Roads.f k.toNat) back = some (a, b) →
          (DT.bind (ref03_ends (m.Roads.f k.toNat) back) fun z1 => DT.ite (decide ((0 : Int) ≤ z1.2 ∧ z1.2 < ((m.Places.n : Nat) : Int))) (DT.ite (decide ((0 : Int) ≤ z1.1 ∧ z1.1 < ((m.Places.n : Nat) : Int))) (
            .ite (decide ((wr ((10 : Int) * (wr ((m.Places.f (Int.toNat z1.2)).Height - (m.Places.f (Int.toNat z1.1)).Height)))) > (m.Roads.f (Int.toNat k)).Length)) (
            .ite (decide ((wr ((-10 : Int) * (wr ((m.Places.f (Int.toNat z1.2)).Height - (m.Places.f (Int.toNat z1.1)).Height)))) > (m.Roads.f (Int.toNat k)).Length)) (
            .ite (d != 0) (.leaf (wr (Int.tdiv (wr ((wr ((wr ((10 : Int) * (m.Roads.f (Int.toNat k)).Length)) + d)) - (1 : Int))) d))) (.fail)) (
            .ite (u != 0) (.leaf (wr (Int.tdiv (wr ((wr ((wr ((10 : Int) * (m.Roads.f (Int.toNat k)).Length)) + u)) - (1 : Int))) u))) (.fail))) (
            .ite (decide ((wr ((-10 : Int) * (wr ((m.Places.f (Int.toNat z1.2)).Height - (m.Places.f (Int.toNat z1.1)).Height)))) > (m.Roads.f (Int.toNat k)).Length)) (
            .ite (d != 0) (.leaf (wr (Int.tdiv (wr ((wr ((wr ((10 : Int) * (m.Roads.f (Int.toNat k)).Length)) + d)) - (1 : Int))) d))) (.fail)) (
            .ite (l != 0) (.leaf (wr (Int.tdiv (wr ((wr ((wr ((10 : Int) * (m.Roads.f (Int.toNat k)).Length)) + l)) - (1 : Int))) l))) (.fail)))) .fail) .fail).get = some (pSec u d l (m.Roads.f k.toNat).Length (hg m b - hg m a)) := by
        intro a b a0 a1 b0 b1 he
        have g1 := hg_le ok a0 a1
        have g2 := hg_le ok b0 b1
        rw [get_bind he, get_t (decide_eq_true ⟨b0, b1⟩), get_t (decide_eq_true ⟨a0, a1⟩)]
        dsimp only
        rw [show (m.Places.f (Int.toNat b)).Height - (m.Places.f (Int.toNat a)).Height = hg m b - hg m a from rfl]
        have hr : -20000 ≤ hg m b - hg m a ∧ hg m b - hg m a ≤ 20000 := by omega
        generalize hg m b - hg m a = r at hr ⊢
        rw [wr_ok (x := r) (by omega) (by omega), wr_ok (x := 10 * r) (by omega) (by omega), wr_ok (x := -10 * r) (by omega) (by omega)]
        unfold pSec pSpd
        by_cases q1 : (m.Roads.f k.toNat).Length < 10 * r
        · rw [get_t (decide_eq_true q1), get_f (decide_eq_false (by omega)), get_t (by simp; omega), if_pos q1]
          exact congrArg some (sec_v hlen hu)
        · rw [get_f (decide_eq_false q1), if_neg q1]
          by_cases q2 : (m.Roads.f k.toNat).Length < -10 * r
          · rw [get_t (decide_eq_true q2), get_t (by simp; omega), if_pos q2]
            exact congrArg some (sec_v hlen hd)
          · rw [get_f (decide_eq_false q2), get_t (by simp; omega), if_neg q2]
            exact congrArg some (sec_v hlen hl)
      cases back with
      | true => exact main _ _ e3 e4 e1 e2 (by rw [ref03_ends_eq]; rfl)
      | false => exact main _ _ e1 e2 e3 e4 (by rw [ref03_ends_eq]; rfl)
theorem walk_Time_v {m : SMine} (ok : MineOK m) (k : Int) (back : Bool) : walk_Time m k back = some (secP m k back 6 9 12) := by
  rw [walk_Time_eq]; unfold walk_Time_t
  rw [get_bind (walk_seconds_v ok k back (by omega) (by omega) (by omega))]; rfl
theorem walk_Slow_v {m : SMine} (ok : MineOK m) (k : Int) (back : Bool) : walk_Slow m k back = some (secP m k back 2 3 4) := by
  rw [walk_Slow_eq]; unfold walk_Slow_t
  rw [get_bind (walk_seconds_v ok k back (by omega) (by omega) (by omega))]; rfl
theorem ref03_Time_v {m : SMine} (ok : MineOK m) (k : Int) (back : Bool) : ref03_Time m k back = some (secP m k back 6 9 12) := by
  rw [ref03_Time_eq]; unfold ref03_Time_t
  rw [get_bind (ref03_walked_v ok k back (by omega) (by omega) (by omega))]; rfl
/-! ### Least times -/
def odd (t : Int) : Prop := t < 0 ∨ 1099511627776 < t
instance (t : Int) : Decidable (odd t) := inferInstanceAs (Decidable (_ ∨ _))
theorem walk_odd_v (t : Int) : walk_odd t = some (decide (odd t)) := by
  rw [walk_odd_eq]; unfold walk_odd_t
  by_cases h : t < 0
  · rw [get_t (decide_eq_true h)]
    exact congrArg some (decide_eq_true (p := odd t) (Or.inl h)).symm
  · rw [get_f (decide_eq_false h)]
    by_cases h2 : t > 1099511627776
    · exact congrArg some ((decide_eq_true h2).trans (decide_eq_true (p := odd t) (Or.inr h2)).symm)
    · exact congrArg some ((decide_eq_false h2).trans (decide_eq_false (p := odd t) fun q => q.elim h h2).symm)
def gOdd (s : Sq Int) (i : Nat) : Option Int := if odd (s.f i) then some (i : Int) else none
theorem slices_IndexFunc_l2_v (s : Sq Int) (h : s.n ≤ 1000000) : slices_IndexFunc_l2 s 0 = some (sumO (firstN (gOdd s) s.n 0)) := by
  rw [slices_IndexFunc_l2_eq, ← sumO_eq]
  refine loop_first (step := fun v => slices_IndexFunc_l2_step s v) (gOdd s) (fun i hi => ?_) ?_ s.n 0 (Nat.zero_add _)
  · unfold slices_IndexFunc_l2_step gOdd
    rw [get_t (dlt hi), get_t (dix hi), wr_next (by omega), toNat_nat, get_bind (walk_odd_v _)]
    by_cases a1 : odd (s.f i)
    · rw [get_t (decide_eq_true a1), if_pos a1]; rfl
    · rw [get_f (decide_eq_false a1), if_neg a1]; rfl
  · unfold slices_IndexFunc_l2_step
    rw [get_f (dge (Nat.le_refl _))]; rfl
theorem firstN_no {B : Type} {g : Nat → Option B} : ∀ {k i : Nat}, (∀ j, i ≤ j → j < i + k → g j = none) → firstN g k i = none := by
  intro k
  induction k with
  | zero => intro i _; rfl
  | succ k ih =>
    intro i h
    unfold firstN
    rw [h i (Nat.le_refl _) (by omega)]
    exact ih fun j h1 h2 => h j (by omega) (by omega)
/-- Start times that are times. -/
def TsOK (s : Sq Int) : Prop := ∀ i, i < s.n → 0 ≤ s.f i ∧ s.f i ≤ 1099511627776
theorem slices_ContainsFunc_no {s : Sq Int} (h : s.n ≤ 1000000) (ok : TsOK s) : slices_ContainsFunc s = some false := by
  rw [slices_ContainsFunc_eq]; unfold slices_ContainsFunc_t
  have hf : firstN (gOdd s) s.n 0 = none := firstN_no fun j _ hj => by
    have := ok j (by omega)
    unfold gOdd
    rw [if_neg (fun q : odd (s.f j) => by unfold odd at q; omega)]
  have e : slices_IndexFunc s = some (-1) := by
    rw [slices_IndexFunc_eq]; unfold slices_IndexFunc_t
    rw [get_sum (slices_IndexFunc_l2_v s h), hf]; rfl
  rw [get_bind e]; rfl
def lv (s : Sq Int) : Nat → Sq Scost
  | 0 => Sq.mk s.n (fun _ => (Scost.mk (0 : Int) (0 : Int)))
  | i + 1 => Sq.mk (lv s i).n (fun k0 => (Scost.mk (cond (Nat.beq k0 i) (s.f i) ((lv s i).f k0).time_) (cond (Nat.beq k0 i) ((lv s i).f i).roads_ ((lv s i).f k0).roads_)))
theorem lv_n (s : Sq Int) (i : Nat) : (lv s i).n = s.n := by
  induction i with
  | zero => rfl
  | succ i ih => exact ih
theorem lv_f (s : Sq Int) : ∀ i k, (lv s i).f k = ⟨if k < i then s.f k else 0, 0⟩ := by
  intro i
  induction i with
  | zero => intro k; rw [if_neg (by omega)]; rfl
  | succ i ih =>
    intro k
    show Scost.mk _ _ = _
    rw [ih, ih]
    by_cases h : k = i
    · rw [beq_t h, if_pos (show k < i + 1 by omega), h]; rfl
    · rw [beq_f h]
      by_cases h2 : k < i
      · rw [if_pos h2, if_pos (show k < i + 1 by omega)]; rfl
      · rw [if_neg h2, if_neg (show ¬ k < i + 1 by omega)]; rfl
def tv' (c : Sq Scost) : Nat → Sq Int
  | 0 => Sq.mk c.n (fun _ => (0 : Int))
  | i + 1 => Sq.mk (tv' c i).n (fun k1 => (cond (Nat.beq k1 i) (c.f i).time_ ((tv' c i).f k1)))
theorem tv'_n (c : Sq Scost) (i : Nat) : (tv' c i).n = c.n := by
  induction i with
  | zero => rfl
  | succ i ih => exact ih
theorem tv'_f (c : Sq Scost) : ∀ i k, k < i → (tv' c i).f k = (c.f k).time_ := by
  intro i
  induction i with
  | zero => intro k h; omega
  | succ i ih =>
    intro k hk
    show cond (Nat.beq k i) _ _ = _
    by_cases h : k = i
    · rw [beq_t h, h]; rfl
    · rw [beq_f h]; exact ih k (by omega)
/-- The costs behind a search from start times. -/
def leastC (m : SMine) (s : Sq Int) : Sq Scost := spO (stepsM m) s.n (lv s s.n)
def leastP (m : SMine) (s : Sq Int) : Sq Int := tv' (leastC m s) (leastC m s).n
theorem lv_ok {s : Sq Int} (h : TsOK s) : CsOK (lv s s.n) 0 := ⟨fun i hi => by
  have hi : i < s.n := by rw [lv_n] at hi; exact hi
  have := h i hi
  rw [lv_f, if_pos hi]
  exact ⟨this.1, this.2, Int.le_refl _, Int.le_refl _⟩⟩
theorem leastC_ok {m : SMine} (ok : MineOK m) {s : Sq Int} (hn : s.n = m.Places.n) (h : TsOK s) : (leastC m s).n = s.n ∧ CsOK (leastC m s) 16384 := by
  have np := ok.np
  obtain ⟨a, b⟩ := spO_ok (stepsM_ok ok) s.n (lv s s.n) 0 (by rw [lv_n]; exact hn) (lv_ok h)
  exact ⟨by unfold leastC; rw [a, hn], b.mono (by omega)⟩
theorem walk_Least_v {m : SMine} (ok : MineOK m) {s : Sq Int} (hn : s.n = m.Places.n) (h : TsOK s) : walk_Least m s = some (leastP m s) := by
  have np := ok.np
  have hv : plan_Valid m = some true := by rw [plan_Valid_v, decide_eq_true ((mineE_ok m).2 ok)]
  rw [walk_Least_eq]; unfold walk_Least_t
  simp only [tN]
  have h5 : walk_Least_l5 s m.Places m.Roads (Sq.mk s.n (fun _ => (Scost.mk (0 : Int) (0 : Int)))) (0 : Int) = some (.inl (lv s s.n)) := by
    rw [walk_Least_l5_eq]
    refine (loop_seq (step := fun v : (Sq Scost) × Int => walk_Least_l5_step s m.Places m.Roads v.1 v.2) (fun i => (lv s i, (i : Int))) s.n (z := .l (lv s s.n)) (fun i hi => ?_) ?_)
    · unfold walk_Least_l5_step
      dsimp only
      rw [get_t (dlt hi), get_t (dix hi), get_t (dix (by rw [lv_n]; exact hi)), toNat_nat, wr_next (by omega)]; rfl
    · unfold walk_Least_l5_step
      rw [get_f (dge (Nat.le_refl _))]; rfl
  have hl : StOK (lv s s.n).n (stepsP m m.Roads.n) := by rw [lv_n, hn]; exact stepsM_ok ok
  have hs := walk_spread_v hl (by rw [lv_n]; omega) (lv_ok h) (by omega)
  rw [lv_n] at hs
  obtain ⟨q1, q2⟩ := leastC_ok ok hn h
  have h12 : walk_Least_l12 (leastC m s) (Sq.mk (leastC m s).n (fun _ => (0 : Int))) (0 : Int) = some (.inl (leastP m s)) := by
    rw [walk_Least_l12_eq]
    refine (loop_seq (step := fun v : (Sq Int) × Int => walk_Least_l12_step (leastC m s) v.1 v.2) (fun i => (tv' (leastC m s) i, (i : Int))) (leastC m s).n (z := .l (leastP m s)) (fun i hi => ?_) ?_)
    · unfold walk_Least_l12_step
      dsimp only
      rw [get_t (dlt hi), get_t (dix hi), get_t (dix (by rw [tv'_n]; exact hi)), toNat_nat, wr_next (by omega)]; rfl
    · unfold walk_Least_l12_step
      rw [get_f (dge (Nat.le_refl _))]; rfl
  rw [get_bind hv, get_f (b := !true) rfl, get_f (by simp [hn]), get_bind (slices_ContainsFunc_no (by omega) h), get_f rfl, get_t (decide_eq_true ⟨by omega, by omega, by omega, by omega⟩), get_sum h5]
  dsimp only [Sum.elim]
  rw [get_bind (walk_steps_v ok), get_bind hs]
  change (DT.ite (decide ((0 : Int) ≤ (((leastC m s).n : Nat) : Int) ∧ (((leastC m s).n : Nat) : Int) ≤ (((leastC m s).n : Nat) : Int) ∧ (((leastC m s).n : Nat) : Int) * ((8 : Nat) : Int) ≤ 140737488355328 ∧ (((leastC m s).n : Nat) : Int) ≤ 1099511627776)) (DT.sum (walk_Least_l12 (leastC m s) (Sq.mk (leastC m s).n (fun _ => (0 : Int))) (0 : Int)) (fun y1 => .leaf y1) (fun _ => .fail)) .fail).get = _
  rw [get_t (decide_eq_true ⟨by omega, by omega, by omega, by omega⟩), get_sum h12]; rfl
theorem leastP_n (m : SMine) (s : Sq Int) : (leastP m s).n = (leastC m s).n := tv'_n _ _
theorem leastP_f (m : SMine) (s : Sq Int) {k : Nat} (h : k < (leastC m s).n) : (leastP m s).f k = ((leastC m s).f k).time_ := tv'_f _ _ _ h
theorem ref01_Ints_same {a b : Sq Int} (h64 : a.n ≤ 1000000) (hn : a.n = b.n) (h : ∀ i, i < a.n → a.f i = b.f i) : ref01_Ints a b = some true := by
  rw [ref01_Ints_eq]; unfold ref01_Ints_t
  have h4 : ref01_Ints_l4 a b 0 = some (.inl ()) := by
    rw [ref01_Ints_l4_eq]
    refine (loop_first (B := Unit) (step := fun v => ref01_Ints_l4_step a b v) (n := a.n) (fun _ => none) (fun i hi => ?_) ?_ a.n 0 (Nat.zero_add _)).trans ?_
    · unfold ref01_Ints_l4_step
      rw [get_t (dlt hi), get_t (dix hi), get_t (dix (by omega)), toNat_nat, get_f (by simp [h i hi]), wr_next (by omega)]; rfl
    · unfold ref01_Ints_l4_step
      rw [get_f (dge (Nat.le_refl _))]; rfl
    · rw [firstN_no fun _ _ _ => rfl]
  rw [get_f (by simp [hn]), get_sum h4]; rfl

/-! ### The sanity check -/
def mA : SMine := (SMine.mk (Sq.mk 2 (fun k0 => (SPlace.mk (cond (Nat.beq k0 0) (0 : Int) (0 : Int)) (cond (Nat.beq k0 0) false false)))) (Sq.mk 1 (fun _ => (SRoad.mk (0 : Int) (1 : Int) (120 : Int) (1 : Int) true false (SSpan.mk (1 : Int) (1 : Int)) (SSpan.mk (0 : Int) (0 : Int))))))
def mU : SMine := (SMine.mk (Sq.mk 2 (fun k0 => (SPlace.mk (cond (Nat.beq k0 0) (0 : Int) (20 : Int)) (cond (Nat.beq k0 0) false false)))) (Sq.mk 1 (fun _ => (SRoad.mk (0 : Int) (1 : Int) (120 : Int) (1 : Int) true false (SSpan.mk (1 : Int) (1 : Int)) (SSpan.mk (0 : Int) (0 : Int))))))
theorem mA_ok : MineOK mA := (mineE_ok _).1 (by kernel_rfl)
theorem mU_ok : MineOK mU := (mineE_ok _).1 (by kernel_rfl)
def sA : Sq Int := (Sq.mk 2 (fun k5 => (cond (Nat.beq k5 0) (5 : Int) (1099511627776 : Int))))
theorem sA_ok : TsOK sA := fun i hi => by
  have hi : i < 2 := hi
  match i, hi with
  | 0, _ => exact ⟨by show (0 : Int) ≤ 5; omega, by show (5 : Int) ≤ 1099511627776; omega⟩
  | 1, _ => exact ⟨by show (0 : Int) ≤ 1099511627776; omega, by show (1099511627776 : Int) ≤ 1099511627776; omega⟩
theorem awake3_true : law03_awake = some true := by
  rw [law03_awake_eq]; unfold law03_awake_t
  have w1 : walk_Way mA 0 1 = some (wayP mA 0 1) := walk_Way_v mA_ok (by omega) (by show (0 : Int) < 2; omega) (by omega) (by show (1 : Int) < 2; omega)
  have w2 : (wayP mA 0 1).2.1 = 100 := by kernel_rfl
  have w3 : (wayP mA 0 1).2.2 = true := by kernel_rfl
  have w4 : (wayP mA 0 1).1.n = 1 := by kernel_rfl
  have w5 : (wayP mA 0 1).1.f 0 = 0 := by kernel_rfl
  have t1 : walk_Time mA 0 false = some 100 := by rw [walk_Time_v mA_ok]; exact congrArg some (by kernel_rfl)
  have t2 : walk_Time mU 0 false = some 200 := by rw [walk_Time_v mU_ok]; exact congrArg some (by kernel_rfl)
  have t3 : walk_Slow mA 0 true = some 300 := by rw [walk_Slow_v mA_ok]; exact congrArg some (by kernel_rfl)
  have i1 : ref01_Ints (wayP mA 0 1).1 (Sq.mk 1 (fun _ => (0 : Int))) = some true := ref01_Ints_same (by omega) w4 fun i hi => by
    obtain rfl : i = 0 := by omega
    exact w5
  have l1 : walk_Least mA sA = some (leastP mA sA) := walk_Least_v mA_ok rfl sA_ok
  have l2 : (leastP mA sA).n = 2 := by rw [leastP_n, (leastC_ok mA_ok rfl sA_ok).1]; rfl
  refine (get_bind (o := walk_Way mA 0 1) w1).trans ?_
  refine (get_bind (o := walk_Time mA 0 false) t1).trans ?_
  refine (get_t rfl).trans ?_
  refine (get_bind (o := walk_Time mU 0 false) t2).trans ?_
  refine (get_t rfl).trans ?_
  refine (get_bind (o := walk_Slow mA 0 true) t3).trans ?_
  refine (get_t rfl).trans ?_
  refine (get_t w3).trans ?_
  refine (get_t (by rw [w2]; rfl)).trans ?_
  refine (get_bind i1).trans ?_
  refine (get_t rfl).trans ?_
  refine (get_bind (o := walk_Least mA sA) l1).trans ?_
  show some (((leastP mA sA).n : Int) == 2) = some true
  rw [l2]; rfl
end Go.Proofs.YtfedelfcdjldlaaDoor.Ab
