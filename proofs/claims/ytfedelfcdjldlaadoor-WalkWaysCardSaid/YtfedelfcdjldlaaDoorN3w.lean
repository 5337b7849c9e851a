/- Stage 3: ways, as pure functions. -/
import Derived.Test.YtfedelfcdjldlaaDoorN3s
namespace Go.Proofs.YtfedelfcdjldlaaDoor.Ab
open Go

theorem tN (n : Nat) : Int.toNat ((n : Nat) : Int) = n := rfl
def nv (n : Nat) : Nat → Sq Scost
  | 0 => Sq.mk n (fun _ => (Scost.mk (0 : Int) (0 : Int)))
  | i + 1 => Sq.mk (nv n i).n (fun k0 => (Scost.mk (cond (Nat.beq k0 i) (1099511627776 : Int) ((nv n i).f k0).time_) (cond (Nat.beq k0 i) ((nv n i).f i).roads_ ((nv n i).f k0).roads_)))
theorem nv_n (n i : Nat) : (nv n i).n = n := by
  induction i with
  | zero => rfl
  | succ i ih => exact ih
theorem nv_f (n : Nat) : ∀ i k, (nv n i).f k = ⟨if k < i then 1099511627776 else 0, 0⟩ := by
  intro i
  induction i with
  | zero => intro k; rw [if_neg (by omega)]; rfl
  | succ i ih =>
    intro k
    show Scost.mk _ _ = _
    rw [ih, ih]
    by_cases h : k = i
    · rw [beq_t h, if_pos (show k < i + 1 by omega)]; rfl
    · rw [beq_f h]
      by_cases h2 : k < i
      · rw [if_pos h2, if_pos (show k < i + 1 by omega)]; rfl
      · rw [if_neg h2, if_neg (show ¬ k < i + 1 by omega)]; rfl
def tn (l : Sq Sstep) : Nat → Sq Sstep
  | 0 => Sq.mk l.n (fun _ => (Sstep.mk (0 : Int) (0 : Int) (0 : Int) (0 : Int)))
  | i + 1 => Sq.mk (tn l i).n (fun k1 => (Sstep.mk (cond (Nat.beq k1 i) (l.f i).road_ ((tn l i).f k1).road_) (cond (Nat.beq k1 i) (l.f i).to_ ((tn l i).f k1).from_) (cond (Nat.beq k1 i) (l.f i).from_ ((tn l i).f k1).to_) (cond (Nat.beq k1 i) (l.f i).time_ ((tn l i).f k1).time_)))
theorem tn_n (l : Sq Sstep) (i : Nat) : (tn l i).n = l.n := by
  induction i with
  | zero => rfl
  | succ i ih => exact ih
theorem tn_f (l : Sq Sstep) : ∀ i k, k < i → (tn l i).f k = ⟨(l.f k).road_, (l.f k).to_, (l.f k).from_, (l.f k).time_⟩ := by
  intro i
  induction i with
  | zero => intro k h; omega
  | succ i ih =>
    intro k hk
    show Sstep.mk _ _ _ _ = _
    by_cases h : k = i
    · rw [beq_t h, h]; rfl
    · rw [beq_f h, ih k (by omega)]; rfl
def turn (l : Sq Sstep) : Sq Sstep := tn l l.n
theorem StOK.turn {n : Nat} {l : Sq Sstep} (h : StOK n l) : StOK n (turn l) := by
  refine ⟨by unfold Ab.turn; rw [tn_n]; exact h.ln, fun i hi => ?_⟩
  have hi : i < l.n := by unfold Ab.turn at hi; rw [tn_n] at hi; exact hi
  obtain ⟨a, b, c, d, e⟩ := h.h i hi
  unfold Ab.turn
  rw [tn_f l l.n i hi]
  exact ⟨c, d, a, b, e⟩
/-- The start of a search to a place. -/
def cTo (n : Nat) (to : Int) : Sq Scost := Sq.mk (nv n n).n (fun k2 => (Scost.mk (cond (Nat.beq k2 (Int.toNat to)) (0 : Int) ((nv n n).f k2).time_) (cond (Nat.beq k2 (Int.toNat to)) (0 : Int) ((nv n n).f k2).roads_)))
theorem cTo_ok (n : Nat) (to : Int) : (cTo n to).n = n ∧ CsOK (cTo n to) 0 := by
  refine ⟨nv_n n n, ⟨fun i hi => ?_⟩⟩
  have hi : i < n := by have h := nv_n n n; show i < n; rw [← h]; exact hi
  unfold cTo
  dsimp only
  rw [nv_f, if_pos hi]
  cases Nat.beq i (Int.toNat to)
  · exact ⟨by show (0 : Int) ≤ 1099511627776; omega, by show (1099511627776 : Int) ≤ 1099511627776; omega, by show (0 : Int) ≤ 0; omega, by show (0 : Int) ≤ 0; omega⟩
  · exact ⟨by show (0 : Int) ≤ 0; omega, by show (0 : Int) ≤ 1099511627776; omega, by show (0 : Int) ≤ 0; omega, by show (0 : Int) ≤ 0; omega⟩
theorem walk_costsTo_v {m : SMine} (ok : MineOK m) {to : Int} (t0 : 0 ≤ to) (t1 : to < m.Places.n) {l : Sq Sstep} (hl : StOK m.Places.n l) : walk_costsTo m to l = some (spO (turn l) m.Places.n (cTo m.Places.n to)) := by
  have np := ok.np
  have ln := hl.ln
  rw [walk_costsTo_eq]; unfold walk_costsTo_t
  simp only [tN]
  have h3 : walk_costsTo_l3 to l ((m.Places.n : Nat) : Int) (Sq.mk m.Places.n (fun _ => (Scost.mk (0 : Int) (0 : Int)))) (0 : Int) = some (.inl (nv m.Places.n m.Places.n)) := by
    rw [walk_costsTo_l3_eq]
    refine (loop_seq (step := fun v : (Sq Scost) × Int => walk_costsTo_l3_step to l ((m.Places.n : Nat) : Int) v.1 v.2) (fun i => (nv m.Places.n i, (i : Int))) m.Places.n (z := .l (nv m.Places.n m.Places.n)) (fun i hi => ?_) ?_)
    · unfold walk_costsTo_l3_step
      dsimp only
      rw [get_t (dlt hi), get_t (dix (by rw [nv_n]; exact hi)), toNat_nat, wr_next (by omega)]; rfl
    · unfold walk_costsTo_l3_step
      rw [get_f (dge (Nat.le_refl _))]; rfl
  have h10 : walk_costsTo_l10 l (cTo m.Places.n to) (Sq.mk l.n (fun _ => (Sstep.mk (0 : Int) (0 : Int) (0 : Int) (0 : Int)))) (0 : Int) = some (.inl (turn l)) := by
    rw [walk_costsTo_l10_eq]
    refine (loop_seq (step := fun v : (Sq Sstep) × Int => walk_costsTo_l10_step l (cTo m.Places.n to) v.1 v.2) (fun i => (tn l i, (i : Int))) l.n (z := .l (turn l)) (fun i hi => ?_) ?_)
    · unfold walk_costsTo_l10_step
      dsimp only
      rw [get_t (dlt hi), get_t (dix hi), get_t (dix (by rw [tn_n]; exact hi)), toNat_nat, wr_next (by omega)]; rfl
    · unfold walk_costsTo_l10_step
      rw [get_f (dge (Nat.le_refl _))]; rfl
  obtain ⟨c1, c2⟩ := cTo_ok m.Places.n to
  rw [get_t (decide_eq_true ⟨by omega, by omega, by omega, by omega⟩), get_sum h3]
  dsimp only [Sum.elim]
  rw [get_t (decide_eq_true ⟨t0, by rw [nv_n]; exact t1⟩), get_t (decide_eq_true ⟨by omega, by omega, by omega, by omega⟩)]
  change (DT.sum (walk_costsTo_l10 l (cTo m.Places.n to) (Sq.mk l.n (fun _ => (Sstep.mk (0 : Int) (0 : Int) (0 : Int) (0 : Int)))) (0 : Int)) (fun y1 => DT.bind (walk_spread (cTo m.Places.n to) y1) fun z0 => .leaf z0) (fun _ => .fail)).get = _
  rw [get_sum h10]
  dsimp only [Sum.elim]
  have hs := walk_spread_v (l := turn l) (c := cTo m.Places.n to) (by rw [c1]; exact hl.turn) (by omega) c2 (by omega)
  rw [c1] at hs
  rw [get_bind hs]; rfl
theorem CsOK.mono {c : Sq Scost} {b b' : Int} (h : CsOK c b) (hb : b ≤ b') : CsOK c b' := ⟨fun i hi => by have := h.h i hi; omega⟩
theorem spO_ok {n : Nat} {l : Sq Sstep} (hl : StOK n l) : ∀ (k : Nat) (c : Sq Scost) (b : Int), c.n = n → CsOK c b → (spO l k c).n = n ∧ CsOK (spO l k c) (b + 256 * k) := by
  intro k
  induction k with
  | zero => intro c b hn h; exact ⟨hn, h.mono (by omega)⟩
  | succ k ih =>
    intro c b hn h
    have ln := hl.ln
    obtain ⟨q1, q2⟩ := spI_ok hl hn h l.n (Nat.le_refl _)
    unfold spO
    cases (spI l c l.n).2 with
    | true =>
      obtain ⟨r1, r2⟩ := ih _ _ q1 q2
      exact ⟨r1, r2.mono (by omega)⟩
    | false => exact ⟨q1, q2.mono (by omega)⟩

/-! ### Following -/
def nG (left : Sq Scost) (place : Int) (l : Sq Sstep) (i : Nat) : Option (Int × Int × Int × Int) :=
  if (l.f i).from_ = place ∧ (cWith (left.f (l.f i).to_.toNat) (l.f i)).time_ = (left.f place.toNat).time_ ∧ (cWith (left.f (l.f i).to_.toNat) (l.f i)).roads_ = (left.f place.toNat).roads_ then some ((l.f i).road_, (l.f i).from_, (l.f i).to_, (l.f i).time_) else none
def nextP (left : Sq Scost) (place : Int) (l : Sq Sstep) : Sstep := match firstN (nG left place l) l.n 0 with
  | some y => ⟨y.1, y.2.1, y.2.2.1, y.2.2.2⟩
  | none => ⟨-1, place, place, 0⟩
theorem walk_next_v {n : Nat} {left : Sq Scost} {b : Int} (hn : left.n = n) (hc : CsOK left b) (hb : b ≤ 1000000) {l : Sq Sstep} (hl : StOK n l) {place : Int} (p0 : 0 ≤ place) (p1 : place < n) : walk_next left place l = some (nextP left place l) := by
  have ln := hl.ln
  rw [walk_next_eq]; unfold walk_next_t nextP
  have h2 : walk_next_l2 left place l (0 : Int) = some (sumO (firstN (nG left place l) l.n 0)) := by
    rw [walk_next_l2_eq]
    refine (loop_first (step := fun v => walk_next_l2_step left place l v) (n := l.n) (nG left place l) (fun i hi => ?_) ?_ l.n 0 (Nat.zero_add _)).trans (congrArg some (sumO_eq _))
    · obtain ⟨s1, s2, s3, s4, s5, s6⟩ := hl.h i hi
      have hf := hc.h (l.f i).to_.toNat (by omega)
      unfold walk_next_l2_step nG
      rw [get_t (dlt hi), get_t (dix hi), toNat_nat, wr_next (by omega)]
      by_cases c1 : (l.f i).from_ = place
      · rw [get_t (by simp [c1]), get_t (decide_eq_true ⟨s3, by omega⟩), get_bind (walk_cost_with_v ⟨hf.1, hf.2.1⟩ ⟨by omega, by omega⟩ ⟨hf.2.2.1, by omega⟩), get_t (decide_eq_true ⟨p0, by omega⟩)]
        by_cases c2 : (cWith (left.f (l.f i).to_.toNat) (l.f i)).time_ = (left.f place.toNat).time_
        · by_cases c3 : (cWith (left.f (l.f i).to_.toNat) (l.f i)).roads_ = (left.f place.toNat).roads_
          · rw [get_t (by simp [c2, c3]), if_pos ⟨c1, c2, c3⟩]; rfl
          · rw [get_f (by simp [c3]), if_neg fun h => c3 h.2.2]; rfl
        · rw [get_f (by simp [c2]), if_neg fun h => c2 h.2.1]; rfl
      · rw [get_f (by simp [c1]), if_neg fun h => c1 h.1]; rfl
    · unfold walk_next_l2_step
      rw [get_f (dge (Nat.le_refl _))]; rfl
  rw [get_sum h2]
  cases firstN (nG left place l) l.n 0 with
  | none => rfl
  | some y => rfl
theorem firstN_mem {B : Type} {g : Nat → Option B} : ∀ {k i : Nat} {b : B}, firstN g k i = some b → ∃ j, i ≤ j ∧ j < i + k ∧ g j = some b := by
  intro k
  induction k with
  | zero => intro i b h; cases h
  | succ k ih =>
    intro i b h
    unfold firstN at h
    cases hg : g i with
    | some z => rw [hg] at h; injection h with h; subst h; exact ⟨i, Nat.le_refl _, by omega, hg⟩
    | none =>
      rw [hg] at h
      obtain ⟨j, h1, h2, h3⟩ := ih h
      exact ⟨j, by omega, by omega, h3⟩
theorem nextP_to {n : Nat} {left : Sq Scost} {l : Sq Sstep} (hl : StOK n l) {place : Int} (p0 : 0 ≤ place) (p1 : place < n) : 0 ≤ (nextP left place l).to_ ∧ (nextP left place l).to_ < n := by
  unfold nextP
  cases h : firstN (nG left place l) l.n 0 with
  | none => exact ⟨p0, p1⟩
  | some y =>
    obtain ⟨j, _, hj, e⟩ := firstN_mem h
    unfold nG at e
    split at e
    · injection e with e
      subst e
      obtain ⟨_, _, s3, s4, _⟩ := hl.h j (by omega)
      exact ⟨s3, s4⟩
    · cases e
def followP (left : Sq Scost) (l : Sq Sstep) (place : Int) : Nat → Int × Sq Int
  | 0 => (place, Sq.mk 0 (fun _ => (0 : Int)))
  | i + 1 => ((nextP left (followP left l place i).1 l).to_, Sq.mk ((followP left l place i).2.n + 1) (fun k0 => (cond (Nat.blt k0 (followP left l place i).2.n) ((followP left l place i).2.f k0) (nextP left (followP left l place i).1 l).road_)))
theorem followP_ok {n : Nat} {left : Sq Scost} {l : Sq Sstep} (hl : StOK n l) {place : Int} (p0 : 0 ≤ place) (p1 : place < n) (i : Nat) : 0 ≤ (followP left l place i).1 ∧ (followP left l place i).1 < n ∧ (followP left l place i).2.n = i := by
  induction i with
  | zero => exact ⟨p0, p1, rfl⟩
  | succ i ih =>
    obtain ⟨a, b⟩ := nextP_to (left := left) hl ih.1 ih.2.1
    exact ⟨a, b, congrArg (· + 1) ih.2.2⟩
theorem walk_follow_v {n : Nat} {left : Sq Scost} {b : Int} (hn : left.n = n) (hc : CsOK left b) (hb : b ≤ 1000000) {l : Sq Sstep} (hl : StOK n l) {place : Int} (p0 : 0 ≤ place) (p1 : place < n) : walk_follow left place l = some (followP left l place (left.f place.toNat).roads_.toNat).2 := by
  have hp := hc.h place.toNat (by omega)
  rw [walk_follow_eq]; unfold walk_follow_t
  obtain ⟨N, hN⟩ : ∃ N : Nat, (left.f place.toNat).roads_ = (N : Int) := ⟨(left.f place.toNat).roads_.toNat, by omega⟩
  have h3 : walk_follow_l3 left l (left.f place.toNat).roads_ place (Sq.mk 0 (fun _ => (0 : Int))) (0 : Int) = some (.inl (followP left l place N).2) := by
    rw [walk_follow_l3_eq, hN]
    refine (loop_seq (step := fun v : Int × (Sq Int) × Int => walk_follow_l3_step left l (N : Int) v.1 v.2.1 v.2.2) (fun i => ((followP left l place i).1, (followP left l place i).2, (i : Int))) N (z := .l (followP left l place N).2) (fun i hi => ?_) ?_)
    · obtain ⟨f1, f2, f3⟩ := followP_ok (left := left) hl p0 p1 i
      unfold walk_follow_l3_step
      dsimp only
      rw [get_t (dlt hi), get_bind (walk_next_v hn hc hb hl f1 f2), get_t (decide_eq_true ⟨by omega, by omega⟩), wr_next (by omega)]; rfl
    · unfold walk_follow_l3_step
      rw [get_f (dge (Nat.le_refl _))]; rfl
  rw [get_t (decide_eq_true ⟨p0, by omega⟩), get_sum h3, hN]; rfl
/-! ### Ways -/
theorem plan_Valid_v (m : SMine) : plan_Valid m = some (decide (mineE m = 0)) := by
  rw [plan_Valid_eq]; unfold plan_Valid_t
  rw [get_bind (plan_Check_v m)]
  show some (mineE m == 0) = _
  by_cases h : mineE m = 0
  · rw [decide_eq_true h, h]; rfl
  · rw [decide_eq_false h]; simp [h]
theorem walk_hasPlace_v (m : SMine) (k : Int) : walk_hasPlace m k = some (decide (0 ≤ k ∧ k < m.Places.n)) := by
  rw [walk_hasPlace_eq]; unfold walk_hasPlace_t
  by_cases h : k ≥ 0
  · rw [get_t (decide_eq_true h)]
    by_cases h2 : k < m.Places.n
    · exact congrArg some ((decide_eq_true h2).trans (decide_eq_true ⟨h, h2⟩).symm)
    · exact congrArg some ((decide_eq_false h2).trans (decide_eq_false fun q => h2 q.2).symm)
  · rw [get_f (decide_eq_false h)]
    exact congrArg some (decide_eq_false fun q => h q.1).symm
theorem stepsP_ok {m : SMine} (ok : MineOK m) : ∀ i, i ≤ m.Roads.n → ∀ k, k < (stepsP m i).n → 0 ≤ ((stepsP m i).f k).from_ ∧ ((stepsP m i).f k).from_ < m.Places.n ∧ 0 ≤ ((stepsP m i).f k).to_ ∧ ((stepsP m i).f k).to_ < m.Places.n ∧ 1 ≤ ((stepsP m i).f k).time_ ∧ ((stepsP m i).f k).time_ ≤ 1000099 := by
  intro i
  induction i with
  | zero => intro _ k hk; exact absurd hk (Nat.not_lt_zero _)
  | succ i ih =>
    intro hi k hk
    have ih := ih (by omega)
    unfold stepsP at hk ⊢
    cases hw : (m.Roads.f i).Walk && !(m.Roads.f i).Closed with
    | false => rw [hw] at hk; exact ih k hk
    | true =>
      rw [hw] at hk
      obtain ⟨e1, e2, e3, e4, _⟩ := road_ends ok (show i < m.Roads.n by omega)
      have hlen := road_len ok (show i < m.Roads.n by omega)
      have hk : k < (stepsP m i).n + 1 + 1 := hk
      dsimp only [push2]
      by_cases k1 : k < (stepsP m i).n + 1
      · rw [blt_t k1]
        by_cases k2 : k < (stepsP m i).n
        · rw [blt_t k2]; exact ih k k2
        · rw [blt_f (by omega)]
          have := pSec_le (u := 6) (d := 9) (l := 12) (rise := hg m (m.Roads.f i).To - hg m (m.Roads.f i).From) (by omega) (by omega) (by omega) hlen
          exact ⟨e1, e2, e3, e4, this.1, this.2⟩
      · rw [blt_f (by omega)]
        have := pSec_le (u := 6) (d := 9) (l := 12) (rise := hg m (m.Roads.f i).From - hg m (m.Roads.f i).To) (by omega) (by omega) (by omega) hlen
        exact ⟨e3, e4, e1, e2, this.1, this.2⟩
def stepsM (m : SMine) : Sq Sstep := stepsP m m.Roads.n
theorem stepsM_ok {m : SMine} (ok : MineOK m) : StOK m.Places.n (stepsM m) :=
  ⟨by have := stepsP_n m m.Roads.n; have := ok.nr; show (stepsP m m.Roads.n).n ≤ 256; omega, fun i hi => stepsP_ok ok _ (Nat.le_refl _) i hi⟩
/-- What is left from each place. -/
def leftP (m : SMine) (to : Int) : Sq Scost := spO (turn (stepsM m)) m.Places.n (cTo m.Places.n to)
theorem leftP_ok {m : SMine} (ok : MineOK m) (to : Int) : (leftP m to).n = m.Places.n ∧ CsOK (leftP m to) 16384 := by
  obtain ⟨c1, c2⟩ := cTo_ok m.Places.n to
  obtain ⟨a, b⟩ := spO_ok (stepsM_ok ok).turn m.Places.n _ 0 c1 c2
  have np := ok.np
  exact ⟨a, ⟨fun i hi => by have := b.h i hi; unfold leftP; omega⟩⟩
def wayP (m : SMine) (from_ to_ : Int) : Sq Int × Int × Bool :=
  if ((leftP m to_).f from_.toNat).time_ = 1099511627776 ∧ ((leftP m to_).f from_.toNat).roads_ = 0 then (Sq.mk 0 (fun _ => (0 : Int)), 0, false)
  else ((followP (leftP m to_) (stepsM m) from_ ((leftP m to_).f from_.toNat).roads_.toNat).2, ((leftP m to_).f from_.toNat).time_, true)
theorem walk_Way_v {m : SMine} (ok : MineOK m) {f t : Int} (f0 : 0 ≤ f) (f1 : f < m.Places.n) (t0 : 0 ≤ t) (t1 : t < m.Places.n) : walk_Way m f t = some (wayP m f t) := by
  obtain ⟨l1, l2⟩ := leftP_ok ok t
  rw [walk_Way_eq]; unfold walk_Way_t wayP
  have hv : plan_Valid m = some true := by rw [plan_Valid_v, decide_eq_true ((mineE_ok m).2 ok)]
  have h1 : walk_hasPlace m f = some true := by rw [walk_hasPlace_v, decide_eq_true ⟨f0, f1⟩]
  have h2 : walk_hasPlace m t = some true := by rw [walk_hasPlace_v, decide_eq_true ⟨t0, t1⟩]
  have h3 : walk_costsTo m t (stepsP m m.Roads.n) = some (leftP m t) := walk_costsTo_v ok t0 t1 (stepsM_ok ok)
  rw [get_bind hv, get_f (b := !true) rfl, get_bind h1, get_f (b := !true) rfl, get_bind h2, get_f (b := !true) rfl, get_bind (walk_steps_v ok), get_bind h3, get_t (decide_eq_true ⟨f0, by omega⟩)]
  by_cases c : ((leftP m t).f f.toNat).time_ = 1099511627776 ∧ ((leftP m t).f f.toNat).roads_ = 0
  · rw [get_t (by simp [c.1, c.2]), if_pos c]; rfl
  · have hf : walk_follow (leftP m t) f (stepsP m m.Roads.n) = _ := walk_follow_v l1 l2 (by omega) (stepsM_ok ok) f0 f1
    rw [get_f (by
      by_cases c1 : ((leftP m t).f f.toNat).time_ = 1099511627776
      · have c2 : ((leftP m t).f f.toNat).roads_ ≠ 0 := fun q => c ⟨c1, q⟩
        simp [c2]
      · simp [c1]), if_neg c, get_bind hf, get_t (decide_eq_true ⟨f0, by omega⟩)]; rfl
theorem walk_Way_out {m : SMine} (ok : MineOK m) {f t : Int} (h : ¬ (0 ≤ f ∧ f < m.Places.n) ∨ ¬ (0 ≤ t ∧ t < m.Places.n)) : walk_Way m f t = some (Sq.mk 0 (fun _ => (0 : Int)), 0, false) := by
  rw [walk_Way_eq]; unfold walk_Way_t
  have hv : plan_Valid m = some true := by rw [plan_Valid_v, decide_eq_true ((mineE_ok m).2 ok)]
  rw [get_bind hv, get_f (b := !true) rfl]
  by_cases c : 0 ≤ f ∧ f < m.Places.n
  · have h1 : walk_hasPlace m f = some true := by rw [walk_hasPlace_v, decide_eq_true c]
    have h2 : walk_hasPlace m t = some false := by rw [walk_hasPlace_v, decide_eq_false (h.resolve_left fun q => q c)]
    rw [get_bind h1, get_f (b := !true) rfl, get_bind h2, get_t (b := !false) rfl]; rfl
  · have h1 : walk_hasPlace m f = some false := by rw [walk_hasPlace_v, decide_eq_false c]
    rw [get_bind h1, get_t (b := !false) rfl]; rfl
end Go.Proofs.YtfedelfcdjldlaaDoor.Ab
