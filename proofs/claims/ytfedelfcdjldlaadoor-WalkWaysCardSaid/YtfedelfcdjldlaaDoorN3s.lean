/- Stage 3: what the program does, as pure functions. -/
import Derived.Test.YtfedelfcdjldlaaDoorN3m
namespace Go.Proofs.YtfedelfcdjldlaaDoor.Ab
open Go

theorem walk_walked_v (r : SRoad) : walk_walked r = some (r.Walk && !r.Closed) := by
  rw [walk_walked_eq]; unfold walk_walked_t
  cases h : r.Walk
  · rw [get_f rfl]; rfl
  · rw [get_t rfl]; rfl
def hg (m : SMine) (k : Int) : Int := (m.Places.f k.toNat).Height
theorem hg_le {m : SMine} (ok : MineOK m) {a : Int} (a0 : 0 ≤ a) (a1 : a < m.Places.n) : -10000 ≤ hg m a ∧ hg m a ≤ 10000 := ok.h a.toNat (by omega)
theorem walk_rise_v {m : SMine} (ok : MineOK m) {a b : Int} (a0 : 0 ≤ a) (a1 : a < m.Places.n) (b0 : 0 ≤ b) (b1 : b < m.Places.n) : walk_rise m a b = some (hg m b - hg m a) := by
  have h1 := hg_le ok a0 a1
  have h2 := hg_le ok b0 b1
  rw [walk_rise_eq]; unfold walk_rise_t
  rw [get_t (decide_eq_true ⟨b0, b1⟩), get_t (decide_eq_true ⟨a0, a1⟩)]
  show some (wr (hg m b - hg m a)) = _
  rw [wr_ok (by omega) (by omega)]
def pSpd (u d l len rise : Int) : Int := if len < 10 * rise then u else if len < -10 * rise then d else l
def pSec (u d l len rise : Int) : Int := (10 * len + pSpd u d l len rise - 1) / pSpd u d l len rise
theorem tdiv_nn {a b : Int} (h : 0 ≤ a) : Int.tdiv a b = a / b := Int.tdiv_eq_ediv_of_nonneg h
theorem pSpd_le {u d l len rise : Int} (hu : 1 ≤ u ∧ u ≤ 100) (hd : 1 ≤ d ∧ d ≤ 100) (hl : 1 ≤ l ∧ l ≤ 100) : 1 ≤ pSpd u d l len rise ∧ pSpd u d l len rise ≤ 100 := by
  unfold pSpd
  split
  · exact hu
  · split
    · exact hd
    · exact hl
theorem sec_le {len s : Int} (h1 : 1 ≤ len ∧ len ≤ 100000) (hs : 1 ≤ s ∧ s ≤ 100) : 1 ≤ (10 * len + s - 1) / s ∧ (10 * len + s - 1) / s ≤ 1000099 := by
  constructor
  · exact (Int.le_ediv_iff_mul_le (by omega)).2 (by omega)
  · exact Int.le_trans (Int.ediv_le_self _ (by omega)) (by omega)
theorem pSec_le {u d l len rise : Int} (hu : 1 ≤ u ∧ u ≤ 100) (hd : 1 ≤ d ∧ d ≤ 100) (hl : 1 ≤ l ∧ l ≤ 100) (h1 : 1 ≤ len ∧ len ≤ 100000) : 1 ≤ pSec u d l len rise ∧ pSec u d l len rise ≤ 1000099 := sec_le h1 (pSpd_le hu hd hl)
/-- A length at a speed, as the program says it. -/
theorem sec_v {len s : Int} (h1 : 1 ≤ len ∧ len ≤ 100000) (hs : 1 ≤ s ∧ s ≤ 100) : wr (Int.tdiv (wr ((wr ((wr ((10 : Int) * len)) + s)) - (1 : Int))) s) = (10 * len + s - 1) / s := by
  have := sec_le h1 hs
  rw [wr_ok (x := 10 * len) (by omega) (by omega), wr_ok (x := 10 * len + s) (by omega) (by omega), wr_ok (x := 10 * len + s - 1) (by omega) (by omega), tdiv_nn (by omega), wr_ok (by omega) (by omega)]
theorem pace_v {u d l len rise : Int} (hu : 1 ≤ u ∧ u ≤ 100) (hd : 1 ≤ d ∧ d ≤ 100) (hl : 1 ≤ l ∧ l ≤ 100) (h1 : 1 ≤ len ∧ len ≤ 100000) (h2 : -20000 ≤ rise ∧ rise ≤ 20000) : walk_pace_seconds ⟨u, d, l⟩ len rise = some (pSec u d l len rise) := by
  rw [walk_pace_seconds_eq]; unfold walk_pace_seconds_t
  rw [wr_ok (x := 10 * rise) (by omega) (by omega), wr_ok (x := -10 * rise) (by omega) (by omega)]
  unfold pSec pSpd
  by_cases c1 : len < 10 * rise
  · rw [get_t (decide_eq_true c1), get_t (by simp; omega), if_pos c1]
    exact congrArg some (sec_v h1 hu)
  · rw [get_f (decide_eq_false c1), if_neg c1]
    by_cases c2 : len < -10 * rise
    · rw [get_t (decide_eq_true c2), get_t (by simp; omega), if_pos c2]
      exact congrArg some (sec_v h1 hd)
    · rw [get_f (decide_eq_false c2), get_t (by simp; omega), if_neg c2]
      exact congrArg some (sec_v h1 hl)

/-! ### The steps -/
theorem road_len {m : SMine} (h : MineOK m) {i : Nat} (hi : i < m.Roads.n) : 1 ≤ (m.Roads.f i).Length ∧ (m.Roads.f i).Length ≤ 100000 := by
  have := h.r i hi
  unfold roadE at this
  repeat' split at this
  all_goals first | omega | (simp at this)
def stp (m : SMine) (i : Nat) (a b : Int) : Sstep := ⟨i, a, b, pSec 6 9 12 (m.Roads.f i).Length (hg m b - hg m a)⟩
def push2 (l : Sq Sstep) (s t : Sstep) : Sq Sstep := Sq.mk ((l.n + 1) + 1) (fun k0 => (Sstep.mk (cond (Nat.blt k0 (l.n + 1)) (cond (Nat.blt k0 l.n) (l.f k0).road_ s.road_) t.road_) (cond (Nat.blt k0 (l.n + 1)) (cond (Nat.blt k0 l.n) (l.f k0).from_ s.from_) t.from_)
  (cond (Nat.blt k0 (l.n + 1)) (cond (Nat.blt k0 l.n) (l.f k0).to_ s.to_) t.to_) (cond (Nat.blt k0 (l.n + 1)) (cond (Nat.blt k0 l.n) (l.f k0).time_ s.time_) t.time_)))
def stepsP (m : SMine) : Nat → Sq Sstep
  | 0 => Sq.mk 0 (fun _ => (Sstep.mk (0 : Int) (0 : Int) (0 : Int) (0 : Int)))
  | i + 1 => match (m.Roads.f i).Walk && !(m.Roads.f i).Closed with
    | true => push2 (stepsP m i) (stp m i (m.Roads.f i).From (m.Roads.f i).To) (stp m i (m.Roads.f i).To (m.Roads.f i).From)
    | false => stepsP m i
theorem stepsP_n (m : SMine) (i : Nat) : (stepsP m i).n ≤ 2 * i := by
  induction i with
  | zero => exact Nat.le_refl _
  | succ i ih =>
    unfold stepsP
    split
    · show (stepsP m i).n + 1 + 1 ≤ _; omega
    · omega
theorem walk_steps_v {m : SMine} (ok : MineOK m) : walk_steps m = some (stepsP m m.Roads.n) := by
  rw [walk_steps_eq]; unfold walk_steps_t
  have hl : walk_steps_l3 m.Roads m.Places (Sq.mk 0 (fun _ => (Sstep.mk (0 : Int) (0 : Int) (0 : Int) (0 : Int)))) (0 : Int) = some (.inl (stepsP m m.Roads.n)) := by
    rw [walk_steps_l3_eq]
    refine (loop_seq (step := fun v : (Sq Sstep) × Int => walk_steps_l3_step m.Roads m.Places v.1 v.2) (fun i => (stepsP m i, (i : Int))) m.Roads.n (z := .l (stepsP m m.Roads.n)) (fun i hi => ?_) ?_)
    · have nr := ok.nr
      have hn := stepsP_n m i
      obtain ⟨e1, e2, e3, e4, _⟩ := road_ends ok hi
      have hl := road_len ok hi
      have g1 := hg_le ok e1 e2
      have g2 := hg_le ok e3 e4
      unfold walk_steps_l3_step
      dsimp only
      rw [get_t (dlt hi), get_t (dix hi), toNat_nat, get_bind (walk_walked_v _), wr_next (by omega)]
      cases hw : (m.Roads.f i).Walk && !(m.Roads.f i).Closed with
      | false =>
        rw [get_t (b := !false) rfl]
        show some (LR.next (stepsP m i, ((i + 1 : Nat) : Int))) = some (LR.next (stepsP m (i + 1), ((i + 1 : Nat) : Int)))
        rw [stepsP, hw]
      | true =>
        have hd : walk_directions (m.Roads.f i) = some (m.Roads.f i) := by rw [walk_directions_eq]; rfl
        rw [get_f (b := !true) rfl, get_bind hd, get_bind (walk_rise_v (m := m) ok e1 e2 e3 e4), get_bind (pace_v (by omega) (by omega) (by omega) hl (by omega)), get_t (decide_eq_true ⟨by omega, by omega⟩),
          get_bind (walk_rise_v (m := m) ok e3 e4 e1 e2), get_bind (pace_v (by omega) (by omega) (by omega) hl (by omega)), get_t (decide_eq_true ⟨by omega, by omega⟩)]
        show _ = some (LR.next (stepsP m (i + 1), ((i + 1 : Nat) : Int)))
        rw [stepsP, hw]
        rfl
    · unfold walk_steps_l3_step
      rw [get_f (dge (Nat.le_refl _))]; rfl
  rw [get_sum hl]; rfl

/-! ### Costs -/
def cLess (c d : Scost) : Bool := decide (c.time_ < d.time_ ∨ c.time_ = d.time_ ∧ c.roads_ < d.roads_)
theorem walk_cost_less_v (c d : Scost) : walk_cost_less c d = some (cLess c d) := by
  have t : ∀ {p : Prop} [Decidable p], p → some true = some (decide p) := fun h => congrArg some (decide_eq_true h).symm
  have f : ∀ {p : Prop} [Decidable p], ¬ p → some false = some (decide p) := fun h => congrArg some (decide_eq_false h).symm
  rw [walk_cost_less_eq]; unfold walk_cost_less_t cLess
  by_cases h1 : c.time_ < d.time_
  · rw [get_t (decide_eq_true h1)]
    exact t (Or.inl h1)
  · rw [get_f (decide_eq_false h1)]
    by_cases h2 : c.time_ = d.time_
    · rw [get_t (by simp [h2])]
      by_cases h3 : c.roads_ < d.roads_
      · exact (congrArg some (decide_eq_true h3)).trans (t (Or.inr ⟨h2, h3⟩))
      · exact (congrArg some (decide_eq_false h3)).trans (f fun h => h.elim h1 fun q => h3 q.2)
    · rw [get_f (by simp [h2])]
      exact f fun h => h.elim h1 fun q => h2 q.1
def cWith (c : Scost) (s : Sstep) : Scost := ⟨c.time_ + s.time_, c.roads_ + 1⟩
theorem walk_cost_with_v {c : Scost} {s : Sstep} (h0 : 0 ≤ c.time_ ∧ c.time_ ≤ 1099511627776) (h1 : 0 ≤ s.time_ ∧ s.time_ ≤ 2000000) (h2 : 0 ≤ c.roads_ ∧ c.roads_ ≤ 1000000000) : walk_cost_with c s = some (cWith c s) := by
  rw [walk_cost_with_eq]; unfold walk_cost_with_t cWith
  rw [wr_ok (x := c.time_ + s.time_) (by omega) (by omega), wr_ok (x := c.roads_ + 1) (by omega) (by omega)]; rfl
def cUpd (c : Sq Scost) (k : Nat) (z : Scost) : Sq Scost := Sq.mk c.n (fun k0 => (Scost.mk (cond (Nat.beq k0 k) z.time_ (c.f k0).time_) (cond (Nat.beq k0 k) z.roads_ (c.f k0).roads_)))
def spOne (c : Sq Scost × Bool) (s : Sstep) : Sq Scost × Bool := match cLess (cWith (c.1.f s.from_.toNat) s) (c.1.f s.to_.toNat) with
  | true => (cUpd c.1 s.to_.toNat (cWith (c.1.f s.from_.toNat) s), true)
  | false => c
def spI (l : Sq Sstep) (c : Sq Scost) : Nat → Sq Scost × Bool
  | 0 => (c, false)
  | i + 1 => spOne (spI l c i) (l.f i)
/-- Rounds until nothing is lowered. -/
def spO (l : Sq Sstep) : Nat → Sq Scost → Sq Scost
  | 0, c => c
  | k + 1, c => match (spI l c l.n).2 with
    | true => spO l k (spI l c l.n).1
    | false => (spI l c l.n).1
/-- Steps between places. -/
structure StOK (n : Nat) (l : Sq Sstep) : Prop where
  ln : l.n ≤ 256
  h : ∀ i, i < l.n → 0 ≤ (l.f i).from_ ∧ (l.f i).from_ < n ∧ 0 ≤ (l.f i).to_ ∧ (l.f i).to_ < n ∧ 1 ≤ (l.f i).time_ ∧ (l.f i).time_ ≤ 1000099
structure CsOK (c : Sq Scost) (b : Int) : Prop where
  h : ∀ i, i < c.n → 0 ≤ (c.f i).time_ ∧ (c.f i).time_ ≤ 1099511627776 ∧ 0 ≤ (c.f i).roads_ ∧ (c.f i).roads_ ≤ b
theorem spOne_ok {n : Nat} {c : Sq Scost × Bool} {b : Int} (hn : c.1.n = n) (h : CsOK c.1 b) {s : Sstep} (hs : 0 ≤ s.from_ ∧ s.from_ < n ∧ 0 ≤ s.to_ ∧ s.to_ < n ∧ 1 ≤ s.time_ ∧ s.time_ ≤ 1000099) : (spOne c s).1.n = n ∧ CsOK (spOne c s).1 (b + 1) := by
  have mono : CsOK c.1 (b + 1) := ⟨fun i hi => by have := h.h i hi; omega⟩
  unfold spOne
  cases hl : cLess (cWith (c.1.f s.from_.toNat) s) (c.1.f s.to_.toNat) with
  | false => exact ⟨hn, mono⟩
  | true =>
    refine ⟨hn, ⟨fun i hi => ?_⟩⟩
    have hi : i < c.1.n := hi
    have h1 := h.h i hi
    have h2 := h.h s.from_.toNat (by omega)
    have h3 := h.h s.to_.toNat (by omega)
    have hl := of_decide_eq_true hl
    unfold cWith at hl
    dsimp only at hl
    by_cases hk : i = s.to_.toNat
    · show 0 ≤ cond (Nat.beq i s.to_.toNat) _ _ ∧ _
      simp only [cUpd, cWith, hk, Nat.beq_refl, cond_true]
      omega
    · simp only [cUpd, beq_f hk, cond_false]
      omega
theorem spI_ok {n : Nat} {l : Sq Sstep} (hl : StOK n l) {c : Sq Scost} {b : Int} (hn : c.n = n) (h : CsOK c b) : ∀ i, i ≤ l.n → (spI l c i).1.n = n ∧ CsOK (spI l c i).1 (b + i) := by
  intro i
  induction i with
  | zero => intro _; exact ⟨hn, ⟨fun j hj => by
      have := h.h j hj
      refine ⟨this.1, this.2.1, this.2.2.1, ?_⟩
      show (c.f j).roads_ ≤ b + ((0 : Nat) : Int)
      omega⟩⟩
  | succ i ih =>
    intro hi
    obtain ⟨h1, h2⟩ := ih (by omega)
    obtain ⟨q1, q2⟩ := spOne_ok h1 h2 (hl.h i (by omega))
    refine ⟨q1, ?_⟩
    rw [show b + ((i + 1 : Nat) : Int) = b + i + 1 by omega]
    exact q2
theorem walk_spread_l4_v {n : Nat} {l : Sq Sstep} (hl : StOK n l) {c : Sq Scost} {b : Int} (hn : c.n = n) (h : CsOK c b) (hb : b ≤ 100000000) (x y : Int) : walk_spread_l4 l x y c false 0 = some (.inl ((spI l c l.n).2, (spI l c l.n).1)) := by
  rw [walk_spread_l4_eq]
  have ln := hl.ln
  refine (loop_seq (step := fun v : (Sq Scost) × Bool × Int => walk_spread_l4_step l x y v.1 v.2.1 v.2.2) (fun i => ((spI l c i).1, (spI l c i).2, (i : Int))) l.n (z := .l ((spI l c l.n).2, (spI l c l.n).1)) (fun i hi => ?_) ?_)
  · obtain ⟨q1, q2⟩ := spI_ok hl hn h i (by omega)
    obtain ⟨s1, s2, s3, s4, s5, s6⟩ := hl.h i hi
    have hf := q2.h (l.f i).from_.toNat (by omega)
    unfold walk_spread_l4_step
    dsimp only
    rw [get_t (dlt hi), get_t (dix hi), toNat_nat, wr_next (by omega), get_t (decide_eq_true ⟨s1, by omega⟩), get_bind (walk_cost_with_v ⟨hf.1, hf.2.1⟩ ⟨by omega, by omega⟩ ⟨hf.2.2.1, by omega⟩), get_t (decide_eq_true ⟨s3, by omega⟩), get_bind (walk_cost_less_v _ _)]
    show _ = some (LR.next ((spOne (spI l c i) (l.f i)).1, (spOne (spI l c i) (l.f i)).2, ((i + 1 : Nat) : Int)))
    unfold spOne
    cases hq : cLess (cWith ((spI l c i).1.f (l.f i).from_.toNat) (l.f i)) ((spI l c i).1.f (l.f i).to_.toNat) with
    | true => rw [get_t rfl, get_t (decide_eq_true ⟨s3, by omega⟩)]; rfl
    | false => rw [get_f rfl]; rfl
  · unfold walk_spread_l4_step
    rw [get_f (dge (Nat.le_refl _))]; rfl
theorem walk_spread_l1_v {n : Nat} {l : Sq Sstep} (hl : StOK n l) (N : Nat) (hN : N ≤ 1000) : ∀ (k i : Nat) (c : Sq Scost) (b : Int), i + k = N → c.n = n → CsOK c b → b + 256 * k ≤ 100000000 →
    fixO (fun v : (Sq Scost) × Int => walk_spread_l1_step l N v.1 v.2) (c, (i : Int)) = some (.inl (spO l k c)) ∨ fixO (fun v : (Sq Scost) × Int => walk_spread_l1_step l N v.1 v.2) (c, (i : Int)) = some (.inr (spO l k c)) := by
  intro k
  induction k with
  | zero =>
    intro i c b hi hn h hb
    obtain rfl : i = N := by omega
    left
    refine (fixO_get (x := .l c) ?_)
    unfold walk_spread_l1_step
    rw [get_f (dge (Nat.le_refl _))]; rfl
  | succ k ih =>
    intro i c b hi hn h hb
    have ln := hl.ln
    obtain ⟨q1, q2⟩ := spI_ok hl hn h l.n (Nat.le_refl _)
    have hs := walk_spread_l4_v hl hn h (by omega) (i : Int) (N : Int)
    cases hq : (spI l c l.n).2 with
    | true =>
      have hg : (walk_spread_l1_step l N c (i : Int)).get = some (.next ((spI l c l.n).1, ((i + 1 : Nat) : Int))) := by
        unfold walk_spread_l1_step
        rw [get_t (dlt (by omega)), get_sum hs]
        dsimp only [Sum.elim]
        rw [get_f (by rw [hq]; rfl), wr_next (by omega)]; rfl
      rw [fixO_get (step := fun v : (Sq Scost) × Int => walk_spread_l1_step l N v.1 v.2) (v := (c, (i : Int))) hg]
      have := ih (i + 1) (spI l c l.n).1 (b + l.n) (by omega) q1 q2 (by omega)
      unfold spO
      rw [hq]
      exact this
    | false =>
      right
      refine (fixO_get (step := fun v : (Sq Scost) × Int => walk_spread_l1_step l N v.1 v.2) (v := (c, (i : Int))) (x := .r (spI l c l.n).1) ?_).trans ?_
      · show (walk_spread_l1_step l N c (i : Int)).get = _
        unfold walk_spread_l1_step
        rw [get_t (dlt (by omega)), get_sum hs]
        dsimp only [Sum.elim]
        rw [get_t (by rw [hq]; rfl)]; rfl
      · unfold spO
        rw [hq]; rfl
theorem walk_spread_v {l : Sq Sstep} {c : Sq Scost} (hl : StOK c.n l) {b : Int} (hn : c.n ≤ 64) (h : CsOK c b) (hb : b ≤ 1000000) : walk_spread c l = some (spO l c.n c) := by
  rw [walk_spread_eq]; unfold walk_spread_t
  have := walk_spread_l1_v hl c.n (by omega) c.n 0 c b (Nat.zero_add _) rfl h (by omega)
  rw [← walk_spread_l1_eq] at this
  rcases this with e | e
  · rw [get_sum (o := walk_spread_l1 l ((c.n : Nat) : Int) c (0 : Int)) e]; rfl
  · rw [get_sum (o := walk_spread_l1 l ((c.n : Nat) : Int) c (0 : Int)) e]; rfl
end Go.Proofs.YtfedelfcdjldlaaDoor.Ab
