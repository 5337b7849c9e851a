/- Stage 3: least times are a closure; WalkCloses. -/
import Derived.Test.YtppidelikicnaaaDoorN3h
import Derived.Test.YtppidelikicnaaaDoorN3kc
namespace Go.Proofs.YtppidelikicnaaaDoor.Ab
open Go

/-! ### Roads and steps -/
def walks (r : SRoad) : Bool := r.Walk && !r.Closed
def tA (m : SMine) (j : Nat) (a b : Int) : Int := pSec 6 9 12 (m.Roads.f j).Length (hg m b - hg m a)
/-- What no road of the mine lowers. -/
def Cons (m : SMine) (φ : Nat → Int) : Prop := ∀ j, j < m.Roads.n → walks (m.Roads.f j) = true →
  φ (m.Roads.f j).To.toNat ≤ φ (m.Roads.f j).From.toNat + tA m j (m.Roads.f j).From (m.Roads.f j).To ∧ φ (m.Roads.f j).From.toNat ≤ φ (m.Roads.f j).To.toNat + tA m j (m.Roads.f j).To (m.Roads.f j).From
theorem stepsP_succ (m : SMine) (i : Nat) : stepsP m (i + 1) = match walks (m.Roads.f i) with
    | true => push2 (stepsP m i) (stp m i (m.Roads.f i).From (m.Roads.f i).To) (stp m i (m.Roads.f i).To (m.Roads.f i).From)
    | false => stepsP m i := rfl
theorem push2_old {l : Sq Sstep} {s t : Sstep} {k : Nat} (h : k < l.n) : (push2 l s t).f k = l.f k := by
  unfold push2
  dsimp only
  rw [blt_t (show k < l.n + 1 by omega), blt_t h]; rfl
theorem push2_a {l : Sq Sstep} {s t : Sstep} : (push2 l s t).f l.n = s := by
  unfold push2
  dsimp only
  rw [blt_t (show l.n < l.n + 1 by omega), blt_f (Nat.le_refl _)]; rfl
theorem push2_b {l : Sq Sstep} {s t : Sstep} : (push2 l s t).f (l.n + 1) = t := by
  unfold push2
  dsimp only
  rw [blt_f (Nat.le_refl _)]; rfl
theorem steps_in (m : SMine) : ∀ i k, k < (stepsP m i).n → ∃ j, j < i ∧ walks (m.Roads.f j) = true ∧ ((stepsP m i).f k = stp m j (m.Roads.f j).From (m.Roads.f j).To ∨ (stepsP m i).f k = stp m j (m.Roads.f j).To (m.Roads.f j).From) := by
  intro i
  induction i with
  | zero => intro k hk; exact absurd hk (Nat.not_lt_zero _)
  | succ i ih =>
    intro k hk
    rw [stepsP_succ] at hk ⊢
    cases hw : walks (m.Roads.f i) with
    | false =>
      rw [hw] at hk
      obtain ⟨j, h1, h2, h3⟩ := ih k hk
      exact ⟨j, by omega, h2, h3⟩
    | true =>
      rw [hw] at hk
      have hk : k < (stepsP m i).n + 1 + 1 := hk
      dsimp only
      by_cases k1 : k < (stepsP m i).n
      · rw [push2_old k1]
        obtain ⟨j, h1, h2, h3⟩ := ih k k1
        exact ⟨j, by omega, h2, h3⟩
      · by_cases k2 : k = (stepsP m i).n
        · rw [k2, push2_a]
          exact ⟨i, by omega, hw, .inl rfl⟩
        · rw [show k = (stepsP m i).n + 1 by omega, push2_b]
          exact ⟨i, by omega, hw, .inr rfl⟩
theorem steps_of (m : SMine) : ∀ i j, j < i → walks (m.Roads.f j) = true → (∃ k, k < (stepsP m i).n ∧ (stepsP m i).f k = stp m j (m.Roads.f j).From (m.Roads.f j).To) ∧ ∃ k, k < (stepsP m i).n ∧ (stepsP m i).f k = stp m j (m.Roads.f j).To (m.Roads.f j).From := by
  intro i
  induction i with
  | zero => intro j hj; omega
  | succ i ih =>
    intro j hj hw
    rw [stepsP_succ]
    by_cases hji : j = i
    · subst hji
      rw [hw]
      exact ⟨⟨(stepsP m j).n, by show (stepsP m j).n < (stepsP m j).n + 1 + 1; omega, push2_a⟩, ⟨(stepsP m j).n + 1, by show (stepsP m j).n + 1 < (stepsP m j).n + 1 + 1; omega, push2_b⟩⟩
    · obtain ⟨⟨a, a1, a2⟩, ⟨b, b1, b2⟩⟩ := ih j (by omega) hw
      cases walks (m.Roads.f i) with
      | false => exact ⟨⟨a, a1, a2⟩, ⟨b, b1, b2⟩⟩
      | true => exact ⟨⟨a, by show a < (stepsP m i).n + 1 + 1; omega, by dsimp only; rw [push2_old a1]; exact a2⟩, ⟨b, by show b < (stepsP m i).n + 1 + 1; omega, by dsimp only; rw [push2_old b1]; exact b2⟩⟩
theorem Stab.cons {m : SMine} {c : Sq Scost} (h : Stab (stepsM m) c) : Cons m fun v => (c.f v).time_ := by
  intro j hj hw
  obtain ⟨⟨a, a1, a2⟩, ⟨b, b1, b2⟩⟩ := steps_of m m.Roads.n j hj hw
  have h1 := h.le (i := a) a1
  have h2 := h.le (i := b) b1
  rw [show (stepsM m).f a = _ from a2] at h1
  rw [show (stepsM m).f b = _ from b2] at h2
  exact ⟨h1, h2⟩
theorem Cons.step {m : SMine} {φ : Nat → Int} (h : Cons m φ) (i : Nat) (hi : i < (stepsM m).n) : φ ((stepsM m).f i).to_.toNat ≤ φ ((stepsM m).f i).from_.toNat + ((stepsM m).f i).time_ := by
  obtain ⟨j, h1, h2, h3⟩ := steps_in m m.Roads.n i hi
  obtain ⟨a, b⟩ := h j h1 h2
  rcases h3 with e | e
  · rw [show (stepsM m).f i = _ from e]; exact a
  · rw [show (stepsM m).f i = _ from e]; exact b

/-! ### Least times -/
theorem lv_roads (s : Sq Int) (v : Nat) : ((lv s s.n).f v).roads_ = 0 := by rw [lv_f]
theorem lv_time (s : Sq Int) {v : Nat} (hv : v < s.n) : ((lv s s.n).f v).time_ = s.f v := by rw [lv_f, if_pos hv]
theorem leastC_stab {m : SMine} (ok : MineOK m) {s : Sq Int} (hn : s.n = m.Places.n) : Stab (stepsM m) (leastC m s) := by
  unfold leastC
  rw [hn]
  have e : lv s m.Places.n = lv s s.n := by rw [hn]
  rw [e]
  exact spO_stable (stepsM_ok ok) (Ch.start fun v _ => lv_roads s v) fun v _ => by rw [lv_roads]; exact Int.le_refl _
theorem leastC_ge {m : SMine} (ok : MineOK m) {s : Sq Int} (hn : s.n = m.Places.n) {φ : Nat → Int} (h0 : ∀ v, v < s.n → φ v ≤ s.f v) (h : Cons m φ) {v : Nat} (hv : v < s.n) : φ v ≤ ((leastC m s).f v).time_ := by
  unfold leastC
  refine spO_ge (n := s.n) (by rw [hn]; exact stepsM_ok ok) φ (fun v hv => by rw [lv_time s hv]; exact h0 v hv) h.step s.n v hv
theorem leastC_le (m : SMine) (s : Sq Int) {v : Nat} (hv : v < s.n) : ((leastC m s).f v).time_ ≤ s.f v := by
  have := spO_mono (stepsM m) v s.n (lv s s.n)
  have e := lv_time s hv
  unfold leastC
  unfold cLe at this
  omega
/-- What the program says of the least times. -/
structure LeastOK (m : SMine) (s a : Sq Int) : Prop where
  n : a.n = s.n
  ts : TsOK a
  le : ∀ v, v < s.n → a.f v ≤ s.f v
  cons : Cons m fun v => a.f v
  ge : ∀ φ : Nat → Int, (∀ v, v < s.n → φ v ≤ s.f v) → Cons m φ → ∀ v, v < s.n → φ v ≤ a.f v
theorem leastP_ok {m : SMine} (ok : MineOK m) {s : Sq Int} (hn : s.n = m.Places.n) (h : TsOK s) : LeastOK m s (leastP m s) := by
  obtain ⟨q1, q2⟩ := leastC_ok ok hn h
  have f : ∀ v, v < s.n → (leastP m s).f v = ((leastC m s).f v).time_ := fun v hv => leastP_f m s (by omega)
  refine ⟨by rw [leastP_n, q1], fun v hv => ?_, fun v hv => by rw [f v hv]; exact leastC_le m s hv, fun j hj hw => ?_, fun φ h0 hc v hv => by rw [f v hv]; exact leastC_ge ok hn h0 hc hv⟩
  · rw [leastP_n, q1] at hv
    rw [f v hv]
    have := q2.h v (by omega)
    exact ⟨this.1, this.2.1⟩
  · obtain ⟨e1, e2, e3, e4, _⟩ := road_ends ok hj
    obtain ⟨a, b⟩ := (leastC_stab ok hn).cons j hj hw
    dsimp only at a b ⊢
    rw [f _ (by omega), f _ (by omega)]
    exact ⟨a, b⟩

/-! ### Start times that are drawn -/
theorem times_ex {c : SCodes} (hc : CdOK c) {m : SMine} (hn : m.Places.n ≤ 64) : ∃ l b, law03_times c m = some (l, b) ∧ l.n = m.Places.n ∧ TsOK l ∧ 0 ≤ b ∧ b ≤ 300 := by
  rw [law03_times_eq]; unfold law03_times_t
  have key := loop_ex (step := fun v : Int × (Sq Int) × Int => law03_times_l3_step c.l_ m.Places m.Roads v.1 v.2.1 v.2.2)
    (fun v => 0 ≤ v.1 ∧ v.1 ≤ 300 ∧ (v.2.1.n : Int) = v.2.2 ∧ 0 ≤ v.2.2 ∧ v.2.2 ≤ m.Places.n ∧ TsOK v.2.1) (fun v => m.Places.n - v.2.2.toNat)
    (fun z => ∃ y, z = .inl y ∧ 0 ≤ y.1 ∧ y.1 ≤ 300 ∧ y.2.n = m.Places.n ∧ TsOK y.2) (fun v hv => by
      obtain ⟨a, l, i⟩ := v
      obtain ⟨h1, h2, h3, h4, h5, h6⟩ := hv
      dsimp only at h1 h2 h3 h4 h5 h6 ⊢
      have push : ∀ x : Int, 0 ≤ x → x ≤ 1099511627776 → TsOK (Sq.mk (l.n + 1) (fun k0 => (cond (Nat.blt k0 l.n) (l.f k0) x))) := fun x x0 x1 k hk => by
        have hk : k < l.n + 1 := hk
        dsimp only
        by_cases c1 : k < l.n
        · rw [blt_t c1]; exact h6 k c1
        · rw [blt_f (by omega)]; exact ⟨x0, x1⟩
      unfold law03_times_l3_step
      by_cases c0 : i < m.Places.n
      · obtain ⟨v1, a1, f1, l1, u1, x1, y1, _⟩ := Codes_Next_ex (hc.at h1 h2) 3 (by omega)
        rw [get_t (decide_eq_true c0), get_bind f1]
        by_cases c1 : v1 = 0
        · obtain ⟨v2, a2, f2, l2, u2, x2, y2, _⟩ := Codes_Next_ex (hc.at l1 u1) 300 (by omega)
          have y2 := y2 (by omega)
          rw [get_t (by simp [c1]), get_bind f2, get_t (decide_eq_true ⟨by omega, by omega⟩), wr_ok (x := i + 1) (by omega) (by omega)]
          exact ⟨_, rfl, ⟨l2, u2, by dsimp only; omega, by dsimp only; omega, by dsimp only; omega, push v2 x2 (by omega)⟩, by dsimp only; omega⟩
        · rw [get_f (by simp [c1]), get_t (decide_eq_true ⟨by omega, by omega⟩), wr_ok (x := i + 1) (by omega) (by omega)]
          exact ⟨_, rfl, ⟨l1, u1, by dsimp only; omega, by dsimp only; omega, by dsimp only; omega, push _ (by omega) (by omega)⟩, by dsimp only; omega⟩
      · rw [get_f (decide_eq_false c0)]
        exact ⟨_, rfl, _, rfl, h1, h2, by dsimp only; omega, h6⟩)
    (c.at_, Sq.mk 0 (fun _ => (0 : Int)), 0) ⟨hc.a0, hc.a1, rfl, by dsimp only; omega, by dsimp only; omega, fun k hk => absurd hk (Nat.not_lt_zero _)⟩
  obtain ⟨z, hz, y, rfl, y0, y1, y2, y3⟩ := key
  rw [get_sum (by rw [law03_times_l3_eq]; exact hz)]
  exact ⟨_, _, rfl, y2, y3, y0, y1⟩

/-! ### A road closed -/
/-- A mine with less roads open. -/
structure Clo (m m' : SMine) : Prop where
  p : m'.Places = m.Places
  rn : m'.Roads.n = m.Roads.n
  r : ∀ j, (m'.Roads.f j).From = (m.Roads.f j).From ∧ (m'.Roads.f j).To = (m.Roads.f j).To ∧ (m'.Roads.f j).Length = (m.Roads.f j).Length ∧ (m'.Roads.f j).Area = (m.Roads.f j).Area ∧ (m'.Roads.f j).Rest = (m.Roads.f j).Rest ∧ (m'.Roads.f j).Lift = (m.Roads.f j).Lift ∧ (walks (m'.Roads.f j) = true → walks (m.Roads.f j) = true)
theorem Clo.ok {m m' : SMine} (h : Clo m m') (ok : MineOK m) : MineOK m' := by
  refine ⟨by rw [h.p]; exact ok.np, by rw [h.rn]; exact ok.nr, fun i hi => by rw [h.p] at hi ⊢; exact ok.h i hi, fun i hi => ?_⟩
  obtain ⟨a, b, c, d, e, f, _⟩ := h.r i
  have := ok.r i (by rw [← h.rn]; exact hi)
  unfold roadE at this ⊢
  rw [a, b, c, d, e, f, h.p]
  exact this
theorem Clo.cons {m m' : SMine} (h : Clo m m') {φ : Nat → Int} (hc : Cons m φ) : Cons m' φ := by
  intro j hj hw
  obtain ⟨a, b, c, _, _, _, g⟩ := h.r j
  have := hc j (by rw [← h.rn]; exact hj) (g hw)
  unfold tA hg at this ⊢
  rw [a, b, c, h.p]
  exact this
theorem walkCloses_true (codes : Sq Int) (hb : ∀ k, 0 ≤ codes.f k ∧ codes.f k ≤ 255) (place road : Int) : (law03_WalkCloses_t codes place road).get = some true := by
  obtain ⟨c, e0, hc⟩ := New_ex codes hb
  obtain ⟨m, z, e1, hm, zb⟩ := Codes_Mine_at hc
  have ok := hm.ok
  have nr := ok.nr
  have n0 := hm.n0
  have n1 := hm.n1
  obtain ⟨l, b, e2, ln, lt, _⟩ := times_ex (hc.at zb.1 zb.2) (m := m) (by omega)
  have A := leastP_ok ok ln lt
  have B := leastP_ok ok (s := leastP m l) (by rw [A.n, ln]) A.ts
  unfold law03_WalkCloses_t
  rw [get_bind e0, get_bind e1, get_bind e2, get_bind (walk_Least_v ok ln lt), get_f (by simp [A.n]), get_bind (walk_Least_v ok (by rw [A.n, ln]) A.ts)]
  have same : ref01_Ints (leastP m (leastP m l)) (leastP m l) = some true := ref01_Ints_same (by rw [B.n, A.n]; omega) B.n fun i hi => by
    rw [B.n] at hi
    have h1 := B.le i hi
    have h2 := B.ge (fun v => (leastP m l).f v) (fun v _ => Int.le_refl _) A.cons i hi
    exact Int.le_antisymm h1 h2
  rw [get_bind same, get_f (b := !true) rfl]
  dsimp only
  rw [get_t (decide_eq_true ⟨by omega, by omega⟩)]
  obtain ⟨k, ek, _, hk⟩ := Mod_ex place (l.n : Int) (by omega)
  have hk := hk (by omega)
  rw [get_bind ek, get_t (decide_eq_true hk), get_t (decide_eq_true hk)]
  have early : ∀ e : Sq Int, e.n = l.n → (∀ v, v < l.n → 0 ≤ e.f v ∧ e.f v ≤ l.f v) → walk_Least m e = some (leastP m e) ∧ LeastOK m e (leastP m e) ∧ ∀ v, v < l.n → (leastP m e).f v ≤ (leastP m l).f v := by
    intro e en ef
    have et : TsOK e := fun v hv => by have h1 := ef v (by omega); have h2 := lt v (by omega); omega
    have E := leastP_ok ok (s := e) (by omega) et
    exact ⟨walk_Least_v ok (by omega) et, E, fun v hv => A.ge (fun v => (leastP m e).f v) (fun v hv => by have h1 := E.le v (by omega); have h2 := ef v hv; omega) E.cons v hv⟩
  obtain ⟨w1, w2, w3⟩ := early (Sq.mk l.n (fun k0 => (cond (Nat.beq k0 (Int.toNat k)) (wr (Int.tdiv (l.f (Int.toNat k)) (2 : Int))) (l.f k0)))) rfl (fun v hv => by
    dsimp only
    have h1 := lt v hv
    by_cases hv2 : v = k.toNat
    · subst hv2
      rw [Nat.beq_refl, tdiv_nn h1.1, wr_ok (by omega) (by omega)]
      show 0 ≤ l.f k.toNat / 2 ∧ l.f k.toNat / 2 ≤ l.f k.toNat
      omega
    · rw [beq_f hv2]
      exact ⟨h1.1, Int.le_refl _⟩)
  have hcp : ref01_Copy m = some m := by
    rw [ref01_Copy_eq]; unfold ref01_Copy_t
    rw [get_t (decide_eq_true ⟨by omega, by omega⟩), get_t (decide_eq_true ⟨by omega, by omega⟩)]; rfl
  rw [get_bind w1, get_bind hcp]
  have fin : ∀ d : Sq Int, d.n = l.n → (∀ v, v < l.n → (leastP m l).f v ≤ d.f v) → law03_WalkCloses_l18 l (leastP m l) (leastP m (Sq.mk l.n (fun k0 => (cond (Nat.beq k0 (Int.toNat k)) (wr (Int.tdiv (l.f (Int.toNat k)) (2 : Int))) (l.f k0))))) d 0 = some (.inl ()) := by
    intro d dn df
    rw [law03_WalkCloses_l18_eq]
    have An := A.n
    have Wn : (leastP m (Sq.mk l.n (fun k0 => (cond (Nat.beq k0 (Int.toNat k)) (wr (Int.tdiv (l.f (Int.toNat k)) (2 : Int))) (l.f k0))))).n = l.n := w2.n
    refine (loop_first (B := Unit) (step := fun v => law03_WalkCloses_l18_step l (leastP m l) (leastP m (Sq.mk l.n (fun k0 => (cond (Nat.beq k0 (Int.toNat k)) (wr (Int.tdiv (l.f (Int.toNat k)) (2 : Int))) (l.f k0))))) d v) (n := l.n) (fun _ => none) (fun i hi => ?_) ?_ l.n 0 (Nat.zero_add _)).trans ?_
    · have h1 := A.le i hi
      have h2 := w3 i hi
      have h3 := df i hi
      unfold law03_WalkCloses_l18_step
      rw [get_t (dlt hi), get_t (dix (by omega)), get_t (dix hi), toNat_nat, get_f (decide_eq_false (by omega)), get_t (dix (by omega)), get_t (dix (by omega)), get_f (decide_eq_false (by omega)), get_t (dix (by omega)), get_t (dix (by omega)), get_f (decide_eq_false (by omega)), wr_next (by omega)]; rfl
    · unfold law03_WalkCloses_l18_step
      rw [get_f (dge (Nat.le_refl _))]; rfl
    · rw [firstN_no fun _ _ _ => rfl]
  have closed : ∀ m' : SMine, Clo m m' → walk_Least m' l = some (leastP m' l) ∧ (leastP m' l).n = l.n ∧ ∀ v, v < l.n → (leastP m l).f v ≤ (leastP m' l).f v := by
    intro m' h
    have ok' := h.ok ok
    have hn' : l.n = m'.Places.n := by rw [h.p]; exact ln
    have D := leastP_ok ok' hn' lt
    exact ⟨walk_Least_v ok' hn' lt, D.n, fun v hv => D.ge (fun v => (leastP m l).f v) A.le (h.cons A.cons) v hv⟩
  by_cases hr : (m.Roads.n : Int) > 0
  · obtain ⟨j, ej, _, hj⟩ := Mod_ex road (m.Roads.n : Int) (by omega)
    have hj := hj (by omega)
    rw [get_t (decide_eq_true hr), get_bind ej, get_t (decide_eq_true hj)]
    generalize hM : (SMine.mk m.Places (Sq.mk m.Roads.n _)) = m'
    have hclo : Clo m m' := by
      subst hM
      refine ⟨rfl, rfl, fun i => ?_⟩
      dsimp only
      by_cases hi : i = j.toNat
      · rw [beq_t hi, hi]
        refine ⟨rfl, rfl, rfl, rfl, rfl, rfl, fun h => ?_⟩
        unfold walks at h
        dsimp only [cond] at h
        simp at h
      · rw [beq_f hi]
        exact ⟨rfl, rfl, rfl, rfl, rfl, rfl, fun h => h⟩
    obtain ⟨d1, d2, d3⟩ := closed m' hclo
    rw [get_bind d1, get_f (by simp [w2.n]), get_f (by simp [d2]), get_sum (fin _ d2 d3)]
    dsimp only [Sum.elim]
    rw [get_bind awake3_true]; rfl
  · obtain ⟨d1, d2, d3⟩ := closed m ⟨rfl, rfl, fun i => ⟨rfl, rfl, rfl, rfl, rfl, rfl, fun h => h⟩⟩
    rw [get_f (decide_eq_false hr), get_bind d1, get_f (by simp [w2.n]), get_f (by simp [d2]), get_sum (fin _ d2 d3)]
    dsimp only [Sum.elim]
    rw [get_bind awake3_true]; rfl
end Go.Proofs.YtppidelikicnaaaDoor.Ab
