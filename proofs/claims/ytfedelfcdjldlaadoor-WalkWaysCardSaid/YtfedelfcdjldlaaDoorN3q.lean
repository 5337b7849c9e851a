/- Stage 3: the document's way is the program's; WalkWays. -/
import Derived.Test.YtfedelfcdjldlaaDoorN3p
import Derived.Test.YtfedelfcdjldlaaDoorN3kw
import Derived.Test.YtfedelfcdjldlaaDoorXu
namespace Go.Proofs.YtfedelfcdjldlaaDoor.Ab
open Go

/-! ### One road in one direction -/
structure Dw (m : SMine) (j : Nat) (back : Bool) (a b : Int) (w : Int) : Prop where
  a0 : 0 ≤ a
  a1 : a < m.Places.n
  b0 : 0 ≤ b
  b1 : b < m.Places.n
  e : ref03_ends (m.Roads.f j) back = some (a, b)
  no : walks (m.Roads.f j) = false → secP m j back 6 9 12 = -1
  yes : walks (m.Roads.f j) = true → secP m j back 6 9 12 = w
  w1 : 1 ≤ w ∧ w ≤ 1000099
theorem dw_of {m : SMine} (ok : MineOK m) {j : Nat} (hj : j < m.Roads.n) :
    Dw m j false (m.Roads.f j).From (m.Roads.f j).To (tA m j (m.Roads.f j).From (m.Roads.f j).To) ∧ Dw m j true (m.Roads.f j).To (m.Roads.f j).From (tA m j (m.Roads.f j).To (m.Roads.f j).From) := by
  obtain ⟨e1, e2, e3, e4, _⟩ := road_ends ok hj
  have hlen := road_len ok hj
  have hj2 : (0 : Int) ≤ (j : Int) ∧ (j : Int) < m.Roads.n := ⟨by omega, by omega⟩
  have no : ∀ back, walks (m.Roads.f j) = false → secP m j back 6 9 12 = -1 := fun back hw => by
    have hw2 : ((m.Roads.f j).Walk && !(m.Roads.f j).Closed) = false := hw
    unfold secP
    rw [if_pos hj2, toNat_nat, hw2, if_neg (by simp)]
  refine ⟨⟨e1, e2, e3, e4, by rw [ref03_ends_eq]; rfl, no false, fun hw => ?_, pSec_le (by omega) (by omega) (by omega) hlen⟩, ⟨e3, e4, e1, e2, by rw [ref03_ends_eq]; rfl, no true, fun hw => ?_, pSec_le (by omega) (by omega) (by omega) hlen⟩⟩
  · have hw2 : ((m.Roads.f j).Walk && !(m.Roads.f j).Closed) = true := hw
    unfold secP
    rw [if_pos hj2, toNat_nat, if_pos hw2]; rfl
  · have hw2 : ((m.Roads.f j).Walk && !(m.Roads.f j).Closed) = true := hw
    unfold secP
    rw [if_pos hj2, toNat_nat, if_pos hw2]; rfl

/-! ### Costs, as the document keeps them -/
/-- Times with -1 for no way, and numbers of roads. -/
structure EqT (n : Nat) (c : Sq Scost) (t k : Sq Int) : Prop where
  tn : t.n = n
  kn : k.n = n
  h : ∀ v, v < n → ((c.f v).time_ = 1099511627776 ∧ t.f v = -1) ∨ ((c.f v).time_ < 1099511627776 ∧ t.f v = (c.f v).time_ ∧ k.f v = (c.f v).roads_)
/-- What holds of costs all the time. -/
structure CI (n : Nat) (c : Sq Scost) : Prop where
  nn : c.n = n
  fin : FinC n c
  r0 : ∀ v, v < n → 0 ≤ (c.f v).time_ ∧ 0 ≤ (c.f v).roads_
  ch : Ch n c
theorem CI.one {n : Nat} {c : Sq Scost} (h : CI n c) {s : Sstep} (f : Bool) (hs : 0 ≤ s.from_ ∧ s.from_ < n ∧ 0 ≤ s.to_ ∧ s.to_ < n ∧ 1 ≤ s.time_ ∧ s.time_ ≤ 1000099) : CI n (spOne (c, f) s).1 := by
  have l : StOK n (Sq.mk 1 (fun _ => s)) := ⟨by show 1 ≤ 256; omega, fun i _ => hs⟩
  refine ⟨?_, h.fin.one l (c, f) 0 (by show 0 < 1; omega), fun v hv => ?_, h.ch.one hs⟩
  · unfold spOne
    split
    · exact h.nn
    · exact h.nn
  · rcases spOne_cases (c, f) s with ⟨e, _⟩ | ⟨_, _, hf⟩
    · rw [e]; exact h.r0 v hv
    · rw [hf]
      by_cases hk : v = s.to_.toNat
      · rw [if_pos hk]
        have := h.r0 s.from_.toNat (by omega)
        unfold cWith
        dsimp only
        omega
      · rw [if_neg hk]; exact h.r0 v hv
/-- Two lists with another element at a place. -/
def setI (l : Sq Int) (k : Nat) (v : Int) : Sq Int := Sq.mk l.n (fun k0 => (cond (Nat.beq k0 k) v (l.f k0)))
theorem setI_f (l : Sq Int) (k : Nat) (v : Int) (j : Nat) : (setI l k v).f j = if j = k then v else l.f j := by
  show cond _ _ _ = _
  by_cases h : j = k
  · rw [beq_t h, if_pos h]; rfl
  · rw [beq_f h, if_neg h]; rfl
theorem l14_one {m : SMine} (ok : MineOK m) {c : Sq Scost} (ci : CI m.Places.n c) {t k : Sq Int} (h : EqT m.Places.n c t k) (f : Bool) {j : Nat} (hj : j < m.Roads.n) {back : Bool} {a b w : Int} (D : Dw m j back a b w) {i : Nat} (hi : i < 2) (hb : ((i : Int) == (1 : Int)) = back) :
    ∃ t' k' c' f', (ref03_to_l14_step m.Places m.Roads j t k i f).get = some (.next (t', k', ((i + 1 : Nat) : Int), f')) ∧ EqT m.Places.n c' t' k' ∧ CI m.Places.n c' ∧ (c', f') = (match walks (m.Roads.f j) with | true => spOne (c, f) ⟨j, b, a, w⟩ | false => (c, f)) := by
  have np := ok.np
  have tn := h.tn
  have kn := h.kn
  have w1 := D.w1
  have a0 := D.a0; have a1 := D.a1; have b0 := D.b0; have b1 := D.b1
  have ha := h.h a.toNat (by omega)
  have hb' := h.h b.toNat (by omega)
  have fa := ci.fin a.toNat (by omega)
  have fb := ci.fin b.toNat (by omega)
  have ra := ci.r0 a.toNat (by omega)
  have rb := ci.r0 b.toNat (by omega)
  have ga := ci.ch.roads (v := a.toNat) (by omega)
  have gb := ci.ch.roads (v := b.toNat) (by omega)
  unfold ref03_to_l14_step
  rw [get_t (decide_eq_true (by omega)), get_t (dix hj), toNat_nat, hb, get_bind D.e, get_bind (ref03_Time_v (m := m) ok _ _), wr_next (by omega)]
  cases hw : walks (m.Roads.f j) with
  | false =>
    rw [D.no hw, get_t (decide_eq_true (by omega))]
    exact ⟨t, k, c, f, rfl, h, ci, rfl⟩
  | true =>
    have ci' : CI m.Places.n (spOne (c, f) ⟨j, b, a, w⟩).1 := ci.one f ⟨b0, b1, a0, a1, w1.1, w1.2⟩
    have ib : decide ((0 : Int) ≤ b ∧ b < ((t.n : Nat) : Int)) = true := decide_eq_true ⟨b0, by omega⟩
    have ia : decide ((0 : Int) ≤ a ∧ a < ((t.n : Nat) : Int)) = true := decide_eq_true ⟨a0, by omega⟩
    have jb : decide ((0 : Int) ≤ b ∧ b < ((k.n : Nat) : Int)) = true := decide_eq_true ⟨b0, by omega⟩
    have ja : decide ((0 : Int) ≤ a ∧ a < ((k.n : Nat) : Int)) = true := decide_eq_true ⟨a0, by omega⟩
    rw [D.yes hw, get_f (decide_eq_false (by omega)), get_t ib]
    dsimp only
    have keep : cLess (cWith (c.f b.toNat) ⟨j, b, a, w⟩) (c.f a.toNat) = false → spOne (c, f) ⟨j, b, a, w⟩ = (c, f) := fun e => by
      unfold spOne
      dsimp only
      rw [e]
    have stay : cLess (cWith (c.f b.toNat) ⟨j, b, a, w⟩) (c.f a.toNat) = false → ∃ t' k' c' f', (DT.leaf (LR.next (t, k, ((i + 1 : Nat) : Int), f)) : DT (LR ((Sq Int) × (Sq Int) × Int × Bool) (Bool × (Sq Int) × (Sq Int)) (Unit))).get = some (.next (t', k', ((i + 1 : Nat) : Int), f')) ∧ EqT m.Places.n c' t' k' ∧ CI m.Places.n c' ∧ (c', f') = spOne (c, f) ⟨j, b, a, w⟩ := fun e =>
      ⟨t, k, c, f, rfl, h, ci, (keep e).symm⟩
    have turnd : cLess (cWith (c.f b.toNat) ⟨j, b, a, w⟩) (c.f a.toNat) = true → (c.f b.toNat).time_ < 1099511627776 → ∃ t' k' c' f', (DT.leaf (LR.next (setI t a.toNat (t.f b.toNat + w), setI k a.toNat (k.f b.toNat + 1), ((i + 1 : Nat) : Int), true)) : DT (LR ((Sq Int) × (Sq Int) × Int × Bool) (Bool × (Sq Int) × (Sq Int)) (Unit))).get = some (.next (t', k', ((i + 1 : Nat) : Int), f')) ∧ EqT m.Places.n c' t' k' ∧ CI m.Places.n c' ∧ (c', f') = spOne (c, f) ⟨j, b, a, w⟩ := fun e fb' => by
      have e1 : spOne (c, f) ⟨j, b, a, w⟩ = (cUpd c a.toNat (cWith (c.f b.toNat) ⟨j, b, a, w⟩), true) := by
        unfold spOne
        dsimp only
        rw [e]
      refine ⟨_, _, (spOne (c, f) ⟨j, b, a, w⟩).1, true, rfl, ⟨tn, kn, fun v hv => ?_⟩, ci', by rw [e1]⟩
      rw [setI_f, setI_f]
      rcases spOne_cases (c, f) ⟨j, b, a, w⟩ with ⟨_, e2⟩ | ⟨_, _, hf⟩
      · have e2 : cLess (cWith (c.f b.toNat) ⟨j, b, a, w⟩) (c.f a.toNat) = false := e2
        rw [e] at e2; cases e2
      · rw [hf]
        dsimp only
        by_cases hv2 : v = a.toNat
        · rw [if_pos hv2, if_pos hv2, if_pos hv2]
          right
          unfold cWith
          dsimp only
          omega
        · rw [if_neg hv2, if_neg hv2, if_neg hv2]; exact h.h v hv
    have less : cLess (cWith (c.f b.toNat) ⟨j, b, a, w⟩) (c.f a.toNat) = decide ((c.f b.toNat).time_ + w < (c.f a.toNat).time_ ∨ (c.f b.toNat).time_ + w = (c.f a.toNat).time_ ∧ (c.f b.toNat).roads_ + 1 < (c.f a.toNat).roads_) := rfl
    by_cases n1 : t.f b.toNat < 0
    · rw [get_t (decide_eq_true n1)]
      refine stay ?_
      rw [less]
      exact decide_eq_false (by omega)
    · have hb2 : (c.f b.toNat).time_ < 1099511627776 ∧ t.f b.toNat = (c.f b.toNat).time_ ∧ k.f b.toNat = (c.f b.toNat).roads_ := by
        rcases hb' with ⟨_, e⟩ | e
        · omega
        · exact e
      rw [get_f (decide_eq_false n1), get_t ia]
      have ww : wr (t.f b.toNat + w) = t.f b.toNat + w := wr_ok (by omega) (by omega)
      have wk : wr (k.f b.toNat + 1) = k.f b.toNat + 1 := wr_ok (by omega) (by omega)
      rw [ww, wk]
      by_cases n2 : t.f a.toNat < 0
      · rw [get_t (decide_eq_true n2), get_t ib, get_t jb, get_t ia, get_t ja]
        refine turnd ?_ hb2.1
        rw [less]
        exact decide_eq_true (by omega)
      · have ha2 : (c.f a.toNat).time_ < 1099511627776 ∧ t.f a.toNat = (c.f a.toNat).time_ ∧ k.f a.toNat = (c.f a.toNat).roads_ := by
          rcases ha with ⟨_, e⟩ | e
          · omega
          · exact e
        rw [get_f (decide_eq_false n2), get_t ib, get_t ia]
        by_cases n3 : t.f b.toNat + w < t.f a.toNat
        · rw [get_t (decide_eq_true n3), get_t ib, get_t jb, get_t ia, get_t ja]
          refine turnd ?_ hb2.1
          rw [less]
          exact decide_eq_true (by omega)
        · rw [get_f (decide_eq_false n3), get_t ib, get_t ia]
          by_cases n4 : t.f b.toNat + w = t.f a.toNat
          · rw [get_t (by simp [n4]), get_t jb, get_t ja]
            by_cases n5 : k.f b.toNat + 1 < k.f a.toNat
            · rw [get_t (decide_eq_true n5), get_t ib, get_t jb, get_t ia, get_t ja]
              refine turnd ?_ hb2.1
              rw [less]
              exact decide_eq_true (by omega)
            · rw [get_f (decide_eq_false n5)]
              refine stay ?_
              rw [less]
              exact decide_eq_false (by omega)
          · rw [get_f (by simp [n4])]
            refine stay ?_
            rw [less]
            exact decide_eq_false (by omega)
/-- One road in both directions. -/
def two (m : SMine) (j : Nat) (c : Sq Scost × Bool) : Sq Scost × Bool := match walks (m.Roads.f j) with
  | true => spOne (spOne c ⟨j, (m.Roads.f j).To, (m.Roads.f j).From, tA m j (m.Roads.f j).From (m.Roads.f j).To⟩) ⟨j, (m.Roads.f j).From, (m.Roads.f j).To, tA m j (m.Roads.f j).To (m.Roads.f j).From⟩
  | false => c
theorem l14_v {m : SMine} (ok : MineOK m) {c : Sq Scost} (ci : CI m.Places.n c) {t k : Sq Int} (h : EqT m.Places.n c t k) (f : Bool) {j : Nat} (hj : j < m.Roads.n) :
    ∃ t' k' c' f', ref03_to_l14 m.Places m.Roads j t k 0 f = some (.inl (f', t', k')) ∧ EqT m.Places.n c' t' k' ∧ CI m.Places.n c' ∧ (c', f') = two m j (c, f) := by
  obtain ⟨d0, d1⟩ := dw_of ok hj
  obtain ⟨t1, k1, c1, f1, g1, h1, i1, e1⟩ := l14_one ok ci h f hj d0 (i := 0) (by omega) rfl
  obtain ⟨t2, k2, c2, f2, g2, h2, i2, e2⟩ := l14_one ok i1 h1 f1 hj d1 (i := 1) (by omega) rfl
  refine ⟨t2, k2, c2, f2, ?_, h2, i2, ?_⟩
  · rw [ref03_to_l14_eq]
    refine (fixO_get (step := fun v : (Sq Int) × (Sq Int) × Int × Bool => ref03_to_l14_step m.Places m.Roads j v.1 v.2.1 v.2.2.1 v.2.2.2) (v := (t, k, 0, f)) g1).trans ?_
    refine (fixO_get (step := fun v : (Sq Int) × (Sq Int) × Int × Bool => ref03_to_l14_step m.Places m.Roads j v.1 v.2.1 v.2.2.1 v.2.2.2) (v := (t1, k1, 1, f1)) g2).trans ?_
    refine (fixO_get (step := fun v : (Sq Int) × (Sq Int) × Int × Bool => ref03_to_l14_step m.Places m.Roads j v.1 v.2.1 v.2.2.1 v.2.2.2) (v := (t2, k2, 2, f2)) (x := .l (f2, t2, k2)) ?_)
    show (ref03_to_l14_step m.Places m.Roads j t2 k2 2 f2).get = _
    unfold ref03_to_l14_step
    rw [get_f (decide_eq_false (by omega))]; rfl
  · rw [e2]
    unfold two
    cases hw : walks (m.Roads.f j) with
    | true => rw [hw] at e1; dsimp only at e1 ⊢; rw [e1]
    | false => rw [hw] at e1; dsimp only at e1 ⊢; exact e1
/-- The roads below a number, in both directions. -/
def rdP (m : SMine) (c : Sq Scost) : Nat → Sq Scost × Bool
  | 0 => (c, false)
  | j + 1 => two m j (rdP m c j)
theorem l11_v {m : SMine} (ok : MineOK m) {c : Sq Scost} (ci : CI m.Places.n c) {t k : Sq Int} (h : EqT m.Places.n c t k) :
    ∃ t' k', ref03_to_l11 m.Places m.Roads t k false 0 = some (.inl ((rdP m c m.Roads.n).2, t', k')) ∧ EqT m.Places.n (rdP m c m.Roads.n).1 t' k' ∧ CI m.Places.n (rdP m c m.Roads.n).1 := by
  have nr := ok.nr
  have key := loop_ex (step := fun v : (Sq Int) × (Sq Int) × Bool × Int => ref03_to_l11_step m.Places m.Roads v.1 v.2.1 v.2.2.1 v.2.2.2)
    (fun v => ∃ j : Nat, v.2.2.2 = j ∧ j ≤ m.Roads.n ∧ v.2.2.1 = (rdP m c j).2 ∧ EqT m.Places.n (rdP m c j).1 v.1 v.2.1 ∧ CI m.Places.n (rdP m c j).1) (fun v => m.Roads.n - v.2.2.2.toNat)
    (fun z => ∃ t' k', z = .inl ((rdP m c m.Roads.n).2, t', k') ∧ EqT m.Places.n (rdP m c m.Roads.n).1 t' k' ∧ CI m.Places.n (rdP m c m.Roads.n).1) (fun v hv => by
      obtain ⟨t, k, f, x⟩ := v
      obtain ⟨j, h1, hj, h2, h3, h4⟩ := hv
      have h1 : x = (j : Int) := h1
      have h2 : f = (rdP m c j).2 := h2
      have h3 : EqT m.Places.n (rdP m c j).1 t k := h3
      subst h1 h2
      show ∃ y, (ref03_to_l11_step m.Places m.Roads t k (rdP m c j).2 (j : Int)).get = some y ∧ _
      unfold ref03_to_l11_step
      by_cases d : j < m.Roads.n
      · obtain ⟨t', k', c', f', g, q1, q2, q3⟩ := l14_v ok h4 h3 (rdP m c j).2 d
        have q4 : (c', f') = rdP m c (j + 1) := q3
        rw [get_t (dlt d), get_sum g, wr_next (by omega)]
        refine ⟨_, rfl, ⟨j + 1, rfl, d, by rw [← q4], by rw [← q4]; exact q1, by rw [← q4]; exact q2⟩, by dsimp only; omega⟩
      · obtain rfl : j = m.Roads.n := by omega
        rw [get_f (dge (Nat.le_refl _))]
        exact ⟨_, rfl, t, k, rfl, h3, h4⟩)
    (t, k, false, 0) ⟨0, rfl, Nat.zero_le _, rfl, h, ci⟩
  obtain ⟨z, hz, t', k', rfl, q⟩ := key
  exact ⟨t', k', by rw [ref03_to_l11_eq]; exact hz, q⟩

/-! ### Rounds -/
theorem spI_congr {l l' : Sq Sstep} (c : Sq Scost) : ∀ n, (∀ i, i < n → l.f i = l'.f i) → spI l c n = spI l' c n := by
  intro n
  induction n with
  | zero => intro _; rfl
  | succ n ih =>
    intro h
    show spOne (spI l c n) (l.f n) = spOne (spI l' c n) (l'.f n)
    rw [ih fun i hi => h i (by omega), h n (by omega)]
theorem stepsP_old (m : SMine) {j : Nat} : ∀ J, j ≤ J → (stepsP m j).n ≤ (stepsP m J).n ∧ ∀ i, i < (stepsP m j).n → (stepsP m J).f i = (stepsP m j).f i := by
  intro J
  induction J with
  | zero => intro h; rw [show j = 0 by omega]; exact ⟨Nat.le_refl _, fun _ _ => rfl⟩
  | succ J ih =>
    intro h
    by_cases e : j = J + 1
    · rw [e]; exact ⟨Nat.le_refl _, fun _ _ => rfl⟩
    · obtain ⟨h1, h2⟩ := ih (by omega)
      rw [stepsP_succ]
      cases walks (m.Roads.f J) with
      | false => exact ⟨h1, h2⟩
      | true =>
        dsimp only
        refine ⟨by show (stepsP m j).n ≤ ((stepsP m J).n + 1) + 1; omega, fun i hi => ?_⟩
        rw [push2_old (by omega)]; exact h2 i hi
/-- The steps of one road. -/
theorem steps_at (m : SMine) {j : Nat} (hj : j < m.Roads.n) : match walks (m.Roads.f j) with
    | true => (stepsP m (j + 1)).n = (stepsP m j).n + 2 ∧ (stepsP m j).n + 2 ≤ (stepsM m).n ∧ (stepsM m).f (stepsP m j).n = stp m j (m.Roads.f j).From (m.Roads.f j).To ∧ (stepsM m).f ((stepsP m j).n + 1) = stp m j (m.Roads.f j).To (m.Roads.f j).From
    | false => (stepsP m (j + 1)).n = (stepsP m j).n := by
  obtain ⟨h1, h2⟩ := stepsP_old m (j := j + 1) m.Roads.n hj
  cases hw : walks (m.Roads.f j) with
  | false =>
    dsimp only
    rw [stepsP_succ, hw]
  | true =>
    have e : stepsP m (j + 1) = push2 (stepsP m j) (stp m j (m.Roads.f j).From (m.Roads.f j).To) (stp m j (m.Roads.f j).To (m.Roads.f j).From) := by rw [stepsP_succ, hw]
    have en : (stepsP m (j + 1)).n = (stepsP m j).n + 2 := by rw [e]; rfl
    dsimp only
    refine ⟨en, by show _ ≤ (stepsP m m.Roads.n).n; omega, ?_, ?_⟩
    · show (stepsP m m.Roads.n).f _ = _
      rw [h2 _ (by omega), e, push2_a]
    · show (stepsP m m.Roads.n).f _ = _
      rw [h2 _ (by omega), e, push2_b]
theorem spI_rd (m : SMine) (c : Sq Scost) : ∀ j, j ≤ m.Roads.n → spI (turn (stepsM m)) c (stepsP m j).n = rdP m c j := by
  intro j
  induction j with
  | zero => intro _; rfl
  | succ j ih =>
    intro hj
    have ih := ih (by omega)
    have st := steps_at m (j := j) hj
    show _ = two m j (rdP m c j)
    unfold two
    cases hw : walks (m.Roads.f j) with
    | false =>
      rw [hw] at st
      dsimp only at st ⊢
      rw [st]; exact ih
    | true =>
      rw [hw] at st
      dsimp only at st ⊢
      obtain ⟨e1, e2, e3, e4⟩ := st
      rw [e1]
      show spOne (spOne (spI (turn (stepsM m)) c (stepsP m j).n) ((turn (stepsM m)).f (stepsP m j).n)) ((turn (stepsM m)).f ((stepsP m j).n + 1)) = _
      rw [ih, turn_f _ (by omega), turn_f _ (by omega), e3, e4]; rfl
theorem l8_v {m : SMine} (ok : MineOK m) {c0 : Sq Scost} (h0 : ∀ v, v < m.Places.n → 0 ≤ (c0.f v).roads_) (ch : Ch m.Places.n c0) (np : 0 < m.Places.n) : ∀ d r t k, r + d = m.Places.n → (r = 0 ∨ r + 1 ≤ m.Places.n) → EqT m.Places.n (rX (turn (stepsM m)) c0 r) t k → CI m.Places.n (rX (turn (stepsM m)) c0 r) →
    ∃ t' k', ref03_to_l8 m.Places m.Roads t k true = some (.inl (t', k')) ∧ EqT m.Places.n (spO (turn (stepsM m)) d (rX (turn (stepsM m)) c0 r)) t' k' := by
  intro d
  induction d with
  | zero => intro r t k hr hq; omega
  | succ d ih =>
    intro r t k hr hq h ci
    obtain ⟨t1, k1, e1, q1, q2⟩ := l11_v ok ci h
    have rd : rdP m (rX (turn (stepsM m)) c0 r) m.Roads.n = spI (turn (stepsM m)) (rX (turn (stepsM m)) c0 r) (turn (stepsM m)).n := by
      rw [turn_n]; exact (spI_rd m _ m.Roads.n (Nat.le_refl _)).symm
    rw [rd] at e1 q1 q2
    have g1 : (ref03_to_l8_step m.Places m.Roads t k true).get = some (.next (t1, k1, (spI (turn (stepsM m)) (rX (turn (stepsM m)) c0 r) (turn (stepsM m)).n).2)) := by
      unfold ref03_to_l8_step
      rw [get_t rfl, get_sum e1]; rfl
    have u : ref03_to_l8 m.Places m.Roads t k true = ref03_to_l8 m.Places m.Roads t1 k1 (spI (turn (stepsM m)) (rX (turn (stepsM m)) c0 r) (turn (stepsM m)).n).2 := by
      rw [ref03_to_l8_eq, ref03_to_l8_eq]
      exact fixO_get (step := fun v : (Sq Int) × (Sq Int) × Bool => ref03_to_l8_step m.Places m.Roads v.1 v.2.1 v.2.2) (v := (t, k, true)) g1
    rw [u]
    unfold spO
    cases hf : (spI (turn (stepsM m)) (rX (turn (stepsM m)) c0 r) (turn (stepsM m)).n).2 with
    | true =>
      have fl := flag_le (stepsM_ok ok).turn ch h0 hf
      exact ih (r + 1) t1 k1 (by omega) (.inr (by omega)) q1 q2
    | false =>
      refine ⟨t1, k1, ?_, q1⟩
      rw [ref03_to_l8_eq]
      refine fixO_get (step := fun v : (Sq Int) × (Sq Int) × Bool => ref03_to_l8_step m.Places m.Roads v.1 v.2.1 v.2.2) (v := (t1, k1, false)) (x := .l (t1, k1)) ?_
      show (ref03_to_l8_step m.Places m.Roads t1 k1 false).get = _
      unfold ref03_to_l8_step
      rw [get_f rfl]; rfl
theorem cTo_ci {m : SMine} (to : Int) : CI m.Places.n (cTo m.Places.n to) := by
  refine ⟨(cTo_ok _ _).1, fun v hv => ?_, fun v hv => ?_, Ch.start fun v _ => cTo_roads _ _ v⟩
  · rw [cTo_time hv, cTo_roads]
    split
    · exact ⟨by omega, .inr (by omega)⟩
    · exact ⟨by omega, .inl ⟨rfl, rfl⟩⟩
  · rw [cTo_time hv, cTo_roads]
    split <;> omega
theorem to_v {m : SMine} (ok : MineOK m) {to : Int} (t0 : 0 ≤ to) (t1 : to < m.Places.n) : ∃ t k, ref03_to m to = some (t, k) ∧ EqT m.Places.n (leftP m to) t k := by
  have np := ok.np
  have key := loop_ex (step := fun v : (Sq Int) × Int => ref03_to_l3_step to m.Places m.Roads (Sq.mk m.Places.n (fun _ => (0 : Int))) v.1 v.2)
    (fun v => ∃ j : Nat, v.2 = j ∧ j ≤ m.Places.n ∧ v.1.n = m.Places.n ∧ ∀ i, i < j → v.1.f i = -1) (fun v => m.Places.n - v.2.toNat)
    (fun z => ∃ y, z = .inl y ∧ y.n = m.Places.n ∧ ∀ i, i < m.Places.n → y.f i = -1) (fun v hv => by
      obtain ⟨y, x⟩ := v
      obtain ⟨j, h1, hj, hn, hf⟩ := hv
      have h1 : x = (j : Int) := h1
      have hn : y.n = m.Places.n := hn
      subst h1
      show ∃ z, (ref03_to_l3_step to m.Places m.Roads (Sq.mk m.Places.n (fun _ => (0 : Int))) y (j : Int)).get = some z ∧ _
      unfold ref03_to_l3_step
      by_cases d : j < m.Places.n
      · rw [get_t (dlt (by omega)), get_t (dix (by omega)), toNat_nat, wr_next (by omega)]
        refine ⟨_, rfl, ⟨j + 1, rfl, d, hn, fun i hi => ?_⟩, by dsimp only; omega⟩
        show cond (Nat.beq i j) _ _ = _
        by_cases e : i = j
        · rw [beq_t e]; rfl
        · rw [beq_f e]; exact hf i (by omega)
      · obtain rfl : j = m.Places.n := by omega
        rw [get_f (dge (by omega))]
        exact ⟨_, rfl, y, rfl, hn, hf⟩)
    (Sq.mk m.Places.n (fun _ => (0 : Int)), 0) ⟨0, rfl, Nat.zero_le _, rfl, fun i hi => absurd hi (Nat.not_lt_zero _)⟩
  obtain ⟨z, hz, y, rfl, yn, yf⟩ := key
  have e0 : EqT m.Places.n (cTo m.Places.n to) (setI y to.toNat 0) (Sq.mk m.Places.n (fun _ => (0 : Int))) := by
    refine ⟨yn, rfl, fun v hv => ?_⟩
    rw [setI_f, cTo_time hv, cTo_roads]
    by_cases c : v = to.toNat
    · rw [if_pos c, if_pos c]; exact .inr ⟨by omega, rfl, rfl⟩
    · rw [if_neg c, if_neg c]; exact .inl ⟨rfl, yf v hv⟩
  obtain ⟨t', k', e1, e2⟩ := l8_v ok (c0 := cTo m.Places.n to) (fun v _ => by rw [cTo_roads]; exact Int.le_refl _) (cTo_ci to).ch (by omega) m.Places.n 0 _ _ (Nat.zero_add _) (.inl rfl) e0 (cTo_ci to)
  refine ⟨t', k', ?_, e2⟩
  rw [ref03_to_eq]; unfold ref03_to_t
  simp only [tN]
  rw [get_t (decide_eq_true ⟨by omega, by omega, by omega, by omega⟩), get_t (decide_eq_true ⟨by omega, by omega, by omega, by omega⟩), get_sum (by rw [ref03_to_l3_eq]; exact hz)]
  dsimp only [Sum.elim]
  rw [get_t (decide_eq_true ⟨t0, by omega⟩)]
  exact (get_sum e1).trans rfl

/-! ### The search for the next road -/
theorem firstN_more {B : Type} {g : Nat → Option B} : ∀ {k i : Nat} (d : Nat) {y : B}, firstN g k i = some y → firstN g (k + d) i = some y := by
  intro k
  induction k with
  | zero => intro i d y h; cases h
  | succ k ih =>
    intro i d y h
    rw [show k + 1 + d = (k + d) + 1 by omega]
    unfold firstN at h ⊢
    cases hg : g i with
    | some b => rw [hg] at h; exact h
    | none => rw [hg] at h; exact ih d h
theorem firstN_next {B : Type} {g : Nat → Option B} : ∀ {k i : Nat}, firstN g k i = none → firstN g (k + 1) i = g (i + k) := by
  intro k
  induction k with
  | zero =>
    intro i _
    show (match g i with | some b => some b | none => none) = g i
    cases g i <;> rfl
  | succ k ih =>
    intro i h
    unfold firstN at h
    cases hg : g i with
    | some b => rw [hg] at h; cases h
    | none =>
      rw [hg] at h
      have := ih h
      show (match g i with | some b => some b | none => firstN g (k + 1) (i + 1)) = _
      rw [hg]
      dsimp only
      rw [this, show i + 1 + k = i + (k + 1) by omega]
/-- A list with one more. -/
def pushI (l : Sq Int) (v : Int) : Sq Int := Sq.mk (l.n + 1) (fun k0 => (cond (Nat.blt k0 l.n) (l.f k0) v))
/-- What one direction finds. -/
def hitO (o : Option (Int × Int × Int × Int)) (nx : Int × Sq Int) : Int × Sq Int := match o with
  | some y => (y.2.2.1, pushI nx.2 y.1)
  | none => nx
theorem w14_one {m : SMine} (ok : MineOK m) {left : Sq Scost} (ci : CI m.Places.n left) {t k : Sq Int} (h : EqT m.Places.n left t k) {p : Int} (p0 : 0 ≤ p) (p1 : p < m.Places.n) (pf : (left.f p.toNat).time_ < 1099511627776) {j : Nat} (hj : j < m.Roads.n) {back : Bool} {a b w : Int} (D : Dw m j back a b w) {i : Nat} (hi : i < 2) (hb : ((i : Int) == (1 : Int)) = back) (x y : Int) {out : Sq Int} (on : out.n ≤ 1000) {nx : Int} :
    (ref03_Way_l14_step x y m.Places m.Roads t k j p out nx i).get = some (.next ((if 0 ≤ nx then (nx, out) else hitO (if walks (m.Roads.f j) = true ∧ a = p ∧ (cWith (left.f b.toNat) ⟨j, a, b, w⟩).time_ = (left.f p.toNat).time_ ∧ (cWith (left.f b.toNat) ⟨j, a, b, w⟩).roads_ = (left.f p.toNat).roads_ then some ((j : Int), a, b, w) else none) (nx, out)).2, (if 0 ≤ nx then (nx, out) else hitO (if walks (m.Roads.f j) = true ∧ a = p ∧ (cWith (left.f b.toNat) ⟨j, a, b, w⟩).time_ = (left.f p.toNat).time_ ∧ (cWith (left.f b.toNat) ⟨j, a, b, w⟩).roads_ = (left.f p.toNat).roads_ then some ((j : Int), a, b, w) else none) (nx, out)).1, ((i + 1 : Nat) : Int))) := by
  have np := ok.np
  have tn := h.tn
  have kn := h.kn
  have w1 := D.w1
  have a0 := D.a0; have a1 := D.a1; have b0 := D.b0; have b1 := D.b1
  have hp := h.h p.toNat (by omega)
  have hb' := h.h b.toNat (by omega)
  have fp := ci.fin p.toNat (by omega)
  have fb := ci.fin b.toNat (by omega)
  have rp := ci.r0 p.toNat (by omega)
  have rb := ci.r0 b.toNat (by omega)
  have gp := ci.ch.roads (v := p.toNat) (by omega)
  have gb := ci.ch.roads (v := b.toNat) (by omega)
  have hp2 : t.f p.toNat = (left.f p.toNat).time_ ∧ k.f p.toNat = (left.f p.toNat).roads_ := by
    rcases hp with ⟨e, _⟩ | e
    · omega
    · exact e.2
  have stay : ∀ C : Prop, [Decidable C] → ¬ C → (if 0 ≤ nx then (nx, out) else hitO (if C then some ((j : Int), a, b, w) else none) (nx, out)) = (nx, out) := fun C _ nc => by
    rw [if_neg nc]
    split <;> rfl
  unfold ref03_Way_l14_step
  rw [get_t (decide_eq_true (by omega)), get_t (dix hj), toNat_nat, hb, get_bind D.e, get_bind (ref03_Time_v (m := m) ok _ _), wr_next (by omega)]
  dsimp only
  by_cases c1 : a = p
  · rw [get_t (by simp [c1])]
    cases hw : walks (m.Roads.f j) with
    | false =>
      rw [D.no hw, get_f (decide_eq_false (by omega)), stay _ (fun q => by cases q.1)]; rfl
    | true =>
      have ib : decide ((0 : Int) ≤ b ∧ b < ((t.n : Nat) : Int)) = true := decide_eq_true ⟨b0, by omega⟩
      have ip : decide ((0 : Int) ≤ p ∧ p < ((t.n : Nat) : Int)) = true := decide_eq_true ⟨p0, by omega⟩
      have jb : decide ((0 : Int) ≤ b ∧ b < ((k.n : Nat) : Int)) = true := decide_eq_true ⟨b0, by omega⟩
      have jp : decide ((0 : Int) ≤ p ∧ p < ((k.n : Nat) : Int)) = true := decide_eq_true ⟨p0, by omega⟩
      rw [D.yes hw, get_t (decide_eq_true (by omega)), get_t ib]
      by_cases n1 : t.f b.toNat ≥ 0
      · have hb2 : (left.f b.toNat).time_ < 1099511627776 ∧ t.f b.toNat = (left.f b.toNat).time_ ∧ k.f b.toNat = (left.f b.toNat).roads_ := by
          rcases hb' with ⟨_, e⟩ | e
          · omega
          · exact e
        have ww : wr (t.f b.toNat + w) = t.f b.toNat + w := wr_ok (by omega) (by omega)
        have wk : wr (k.f b.toNat + 1) = k.f b.toNat + 1 := wr_ok (by omega) (by omega)
        rw [get_t (decide_eq_true n1), get_t ib, get_t ip, ww, wk]
        by_cases n2 : t.f b.toNat + w = t.f p.toNat
        · rw [get_t (by simp [n2]), get_t jb, get_t jp]
          by_cases n3 : k.f b.toNat + 1 = k.f p.toNat
          · rw [get_t (by simp [n3])]
            have C : true = true ∧ a = p ∧ (cWith (left.f b.toNat) ⟨j, a, b, w⟩).time_ = (left.f p.toNat).time_ ∧ (cWith (left.f b.toNat) ⟨j, a, b, w⟩).roads_ = (left.f p.toNat).roads_ := by
              unfold cWith
              dsimp only
              exact ⟨rfl, c1, by omega, by omega⟩
            rw [if_pos C]
            by_cases n4 : nx < 0
            · rw [get_t (decide_eq_true n4), get_t (decide_eq_true ⟨by omega, by omega⟩), if_neg (by omega)]; rfl
            · rw [get_f (decide_eq_false n4), if_pos (by omega)]; rfl
          · rw [get_f (by simp [n3]), stay _ (fun q => by have := q.2.2.2; unfold cWith at this; dsimp only at this; omega)]; rfl
        · rw [get_f (by simp [n2]), stay _ (fun q => by have := q.2.2.1; unfold cWith at this; dsimp only at this; omega)]; rfl
      · rw [get_f (decide_eq_false n1), stay _ (fun q => by
          have := q.2.2.1
          unfold cWith at this
          dsimp only at this
          rcases hb' with ⟨e, _⟩ | e <;> omega)]; rfl
  · rw [get_f (by simp [c1]), stay _ (fun q => c1 q.2.1)]; rfl
/-- What a road's steps have that is wanted. -/
def oR (m : SMine) (left : Sq Scost) (p : Int) (j : Nat) : Option (Int × Int × Int × Int) := match walks (m.Roads.f j) with
  | true => match nG left p (stepsM m) (stepsP m j).n with
    | some y => some y
    | none => nG left p (stepsM m) ((stepsP m j).n + 1)
  | false => none
theorem w14_v {m : SMine} (ok : MineOK m) {left : Sq Scost} (ci : CI m.Places.n left) {t k : Sq Int} (h : EqT m.Places.n left t k) {p : Int} (p0 : 0 ≤ p) (p1 : p < m.Places.n) (pf : (left.f p.toNat).time_ < 1099511627776) {j : Nat} (hj : j < m.Roads.n) (x y : Int) {out : Sq Int} (on : out.n ≤ 500) :
    ref03_Way_l14 x y m.Places m.Roads t k j p out (-1) 0 = some (.inl (hitO (oR m left p j) (-1, out))) := by
  obtain ⟨d0, d1⟩ := dw_of ok hj
  have hst := steps_at m hj
  obtain ⟨e1, e2, e3, e4, _⟩ := road_ends ok hj
  have g0 := w14_one ok ci h p0 p1 pf hj d0 (i := 0) (by omega) rfl x y (out := out) (by omega) (nx := -1)
  have fin : ∀ (nx : Int) (out2 : Sq Int), (ref03_Way_l14_step x y m.Places m.Roads t k j p out2 nx 2).get = some (.l (nx, out2)) := fun nx out2 => by
    unfold ref03_Way_l14_step
    rw [get_f (decide_eq_false (by omega))]; rfl
  rw [if_neg (show ¬ (0 : Int) ≤ -1 by omega)] at g0
  rw [ref03_Way_l14_eq]
  refine (fixO_get (step := fun v : (Sq Int) × Int × Int => ref03_Way_l14_step x y m.Places m.Roads t k j p v.1 v.2.1 v.2.2) (v := (out, -1, 0)) g0).trans ?_
  unfold oR
  cases hw : walks (m.Roads.f j) with
  | false =>
    rw [if_neg (fun q => by cases q.1)]
    have g1 := w14_one ok ci h p0 p1 pf hj d1 (i := 1) (by omega) rfl x y (out := out) (by omega) (nx := -1)
    rw [if_neg (show ¬ (0 : Int) ≤ -1 by omega), if_neg (fun q => by rw [hw] at q; cases q.1)] at g1
    refine (fixO_get (step := fun v : (Sq Int) × Int × Int => ref03_Way_l14_step x y m.Places m.Roads t k j p v.1 v.2.1 v.2.2) (v := (out, -1, 1)) g1).trans ?_
    exact fixO_get (step := fun v : (Sq Int) × Int × Int => ref03_Way_l14_step x y m.Places m.Roads t k j p v.1 v.2.1 v.2.2) (v := (out, -1, 2)) (fin _ _)
  | true =>
    rw [hw] at hst
    obtain ⟨_, _, s0, s1⟩ := hst
    dsimp only
    have q0 : nG left p (stepsM m) (stepsP m j).n = (if true = true ∧ (m.Roads.f j).From = p ∧ (cWith (left.f (m.Roads.f j).To.toNat) ⟨j, (m.Roads.f j).From, (m.Roads.f j).To, tA m j (m.Roads.f j).From (m.Roads.f j).To⟩).time_ = (left.f p.toNat).time_ ∧ (cWith (left.f (m.Roads.f j).To.toNat) ⟨j, (m.Roads.f j).From, (m.Roads.f j).To, tA m j (m.Roads.f j).From (m.Roads.f j).To⟩).roads_ = (left.f p.toNat).roads_ then some ((j : Int), (m.Roads.f j).From, (m.Roads.f j).To, tA m j (m.Roads.f j).From (m.Roads.f j).To) else none) := by
      unfold nG
      rw [s0]
      by_cases c : (m.Roads.f j).From = p ∧ (cWith (left.f (m.Roads.f j).To.toNat) ⟨j, (m.Roads.f j).From, (m.Roads.f j).To, tA m j (m.Roads.f j).From (m.Roads.f j).To⟩).time_ = (left.f p.toNat).time_ ∧ (cWith (left.f (m.Roads.f j).To.toNat) ⟨j, (m.Roads.f j).From, (m.Roads.f j).To, tA m j (m.Roads.f j).From (m.Roads.f j).To⟩).roads_ = (left.f p.toNat).roads_
      · exact (if_pos c).trans (if_pos ⟨rfl, c⟩).symm
      · exact (if_neg c).trans (if_neg fun q => c q.2).symm
    have q1 : nG left p (stepsM m) ((stepsP m j).n + 1) = (if true = true ∧ (m.Roads.f j).To = p ∧ (cWith (left.f (m.Roads.f j).From.toNat) ⟨j, (m.Roads.f j).To, (m.Roads.f j).From, tA m j (m.Roads.f j).To (m.Roads.f j).From⟩).time_ = (left.f p.toNat).time_ ∧ (cWith (left.f (m.Roads.f j).From.toNat) ⟨j, (m.Roads.f j).To, (m.Roads.f j).From, tA m j (m.Roads.f j).To (m.Roads.f j).From⟩).roads_ = (left.f p.toNat).roads_ then some ((j : Int), (m.Roads.f j).To, (m.Roads.f j).From, tA m j (m.Roads.f j).To (m.Roads.f j).From) else none) := by
      unfold nG
      rw [s1]
      by_cases c : (m.Roads.f j).To = p ∧ (cWith (left.f (m.Roads.f j).From.toNat) ⟨j, (m.Roads.f j).To, (m.Roads.f j).From, tA m j (m.Roads.f j).To (m.Roads.f j).From⟩).time_ = (left.f p.toNat).time_ ∧ (cWith (left.f (m.Roads.f j).From.toNat) ⟨j, (m.Roads.f j).To, (m.Roads.f j).From, tA m j (m.Roads.f j).To (m.Roads.f j).From⟩).roads_ = (left.f p.toNat).roads_
      · exact (if_pos c).trans (if_pos ⟨rfl, c⟩).symm
      · exact (if_neg c).trans (if_neg fun q => c q.2).symm
    rw [← q0]
    cases h0 : nG left p (stepsM m) (stepsP m j).n with
    | some z =>
      have z0 : 0 ≤ z.2.2.1 := by
        rw [q0] at h0
        split at h0
        · injection h0 with h0; rw [← h0]; exact e3
        · cases h0
      dsimp only [hitO]
      have g1 := w14_one ok ci h p0 p1 pf hj d1 (i := 1) (by omega) rfl x y (out := pushI out z.1) (by show out.n + 1 ≤ 1000; omega) (nx := z.2.2.1)
      rw [if_pos z0] at g1
      refine (fixO_get (step := fun v : (Sq Int) × Int × Int => ref03_Way_l14_step x y m.Places m.Roads t k j p v.1 v.2.1 v.2.2) (v := (pushI out z.1, z.2.2.1, 1)) g1).trans ?_
      exact fixO_get (step := fun v : (Sq Int) × Int × Int => ref03_Way_l14_step x y m.Places m.Roads t k j p v.1 v.2.1 v.2.2) (v := (pushI out z.1, z.2.2.1, 2)) (fin _ _)
    | none =>
      dsimp only [hitO]
      have g1 := w14_one ok ci h p0 p1 pf hj d1 (i := 1) (by omega) rfl x y (out := out) (by omega) (nx := -1)
      rw [if_neg (show ¬ (0 : Int) ≤ -1 by omega), hw, ← q1] at g1
      refine (fixO_get (step := fun v : (Sq Int) × Int × Int => ref03_Way_l14_step x y m.Places m.Roads t k j p v.1 v.2.1 v.2.2) (v := (out, -1, 1)) g1).trans ?_
      exact fixO_get (step := fun v : (Sq Int) × Int × Int => ref03_Way_l14_step x y m.Places m.Roads t k j p v.1 v.2.1 v.2.2) (v := (_, _, 2)) (fin _ _)
theorem w11_v {m : SMine} (ok : MineOK m) {left : Sq Scost} (ci : CI m.Places.n left) {t k : Sq Int} (h : EqT m.Places.n left t k) {p : Int} (p0 : 0 ≤ p) (p1 : p < m.Places.n) (pf : (left.f p.toNat).time_ < 1099511627776) (x y : Int) {out : Sq Int} (on : out.n ≤ 500) {z : Int × Int × Int × Int} (hz : firstN (nG left p (stepsM m)) (stepsM m).n 0 = some z) (z0 : 0 ≤ z.2.2.1) :
    ∀ d j, j + d = m.Roads.n → firstN (nG left p (stepsM m)) (stepsP m j).n 0 = none → ref03_Way_l11 x y m.Places m.Roads t k p out (-1) j = some (.inl (z.2.2.1, pushI out z.1)) := by
  have nr := ok.nr
  intro d
  induction d with
  | zero =>
    intro j hj hn
    rw [show j = m.Roads.n by omega] at hn
    rw [show (stepsM m).n = (stepsP m m.Roads.n).n from rfl, hn] at hz
    cases hz
  | succ d ih =>
    intro j hj hn
    have hj2 : j < m.Roads.n := by omega
    have g := w14_v ok ci h p0 p1 pf hj2 x y on
    have st := steps_at m hj2
    have g1 : (ref03_Way_l11_step x y m.Places m.Roads t k p out (-1) j).get = some (.next ((hitO (oR m left p j) (-1, out)).2, (hitO (oR m left p j) (-1, out)).1, ((j + 1 : Nat) : Int))) := by
      unfold ref03_Way_l11_step
      rw [get_t (dlt hj2), get_t (show decide ((-1 : Int) < 0) = true from rfl), get_sum g, wr_next (by omega)]; rfl
    have u : ref03_Way_l11 x y m.Places m.Roads t k p out (-1) j = ref03_Way_l11 x y m.Places m.Roads t k p (hitO (oR m left p j) (-1, out)).2 (hitO (oR m left p j) (-1, out)).1 ((j + 1 : Nat) : Int) := by
      rw [ref03_Way_l11_eq, ref03_Way_l11_eq]
      exact fixO_get (step := fun v : (Sq Int) × Int × Int => ref03_Way_l11_step x y m.Places m.Roads t k p v.1 v.2.1 v.2.2) (v := (out, -1, (j : Int))) g1
    rw [u]
    have hit : ∀ z', oR m left p j = some z' → z' = z → ref03_Way_l11 x y m.Places m.Roads t k p (hitO (oR m left p j) (-1, out)).2 (hitO (oR m left p j) (-1, out)).1 ((j + 1 : Nat) : Int) = some (.inl (z.2.2.1, pushI out z.1)) := fun z' ho e => by
      subst e
      rw [ho]
      dsimp only [hitO]
      rw [ref03_Way_l11_eq]
      refine fixO_get (step := fun v : (Sq Int) × Int × Int => ref03_Way_l11_step x y m.Places m.Roads t k p v.1 v.2.1 v.2.2) (v := (pushI out z'.1, z'.2.2.1, ((j + 1 : Nat) : Int))) (x := .l (z'.2.2.1, pushI out z'.1)) ?_
      show (ref03_Way_l11_step x y m.Places m.Roads t k p (pushI out z'.1) z'.2.2.1 ((j + 1 : Nat) : Int)).get = _
      unfold ref03_Way_l11_step
      by_cases c : j + 1 < m.Roads.n
      · rw [get_t (dlt c), get_f (decide_eq_false (by omega))]; rfl
      · rw [get_f (dge (by omega))]; rfl
    have miss : oR m left p j = none → firstN (nG left p (stepsM m)) (stepsP m (j + 1)).n 0 = none → ref03_Way_l11 x y m.Places m.Roads t k p (hitO (oR m left p j) (-1, out)).2 (hitO (oR m left p j) (-1, out)).1 ((j + 1 : Nat) : Int) = some (.inl (z.2.2.1, pushI out z.1)) := fun ho hq => by
      rw [ho]
      exact ih (j + 1) (by omega) hq
    cases hw : walks (m.Roads.f j) with
    | false =>
      rw [hw] at st
      dsimp only at st
      refine miss (by unfold oR; rw [hw]) (by rw [st]; exact hn)
    | true =>
      rw [hw] at st
      obtain ⟨s1, s2, _, _⟩ := st
      have f1 := firstN_next hn
      rw [Nat.zero_add] at f1
      cases h0 : nG left p (stepsM m) (stepsP m j).n with
      | some z' =>
        rw [h0] at f1
        refine hit z' (by unfold oR; rw [hw]; dsimp only; rw [h0]) ?_
        have := firstN_more ((stepsM m).n - ((stepsP m j).n + 1)) f1
        rw [show (stepsP m j).n + 1 + ((stepsM m).n - ((stepsP m j).n + 1)) = (stepsM m).n by omega, hz] at this
        injection this with this
        exact this.symm
      | none =>
        rw [h0] at f1
        have f2 := firstN_next f1
        rw [Nat.zero_add] at f2
        cases h1 : nG left p (stepsM m) ((stepsP m j).n + 1) with
        | some z' =>
          rw [h1] at f2
          refine hit z' (by unfold oR; rw [hw]; dsimp only; rw [h0]; exact h1) ?_
          have := firstN_more ((stepsM m).n - ((stepsP m j).n + 1 + 1)) f2
          rw [show (stepsP m j).n + 1 + 1 + ((stepsM m).n - ((stepsP m j).n + 1 + 1)) = (stepsM m).n by omega, hz] at this
          injection this with this
          exact this.symm
        | none =>
          rw [h1] at f2
          refine miss (by unfold oR; rw [hw]; dsimp only; rw [h0]; exact h1) (by rw [s1]; exact f2)

/-! ### The way -/
theorem leftP_ci {m : SMine} (ok : MineOK m) (to : Int) : CI m.Places.n (leftP m to) := by
  obtain ⟨l1, l2⟩ := leftP_ok ok to
  exact ⟨l1, leftP_fin ok to, fun v hv => by have := l2.h v (by omega); omega, spO_Ch (stepsM_ok ok).turn m.Places.n (Ch.start fun v _ => cTo_roads _ _ v)⟩
/-- On the way the time that is left does not grow, and a road of it is found. -/
theorem follow_le {m : SMine} (ok : MineOK m) {p q : Int} (p0 : 0 ≤ p) (p1 : p < m.Places.n) {R : Nat} (hR : (R : Int) = ((leftP m q).f p.toNat).roads_) : ∀ i, i ≤ R → ((leftP m q).f (followP (leftP m q) (stepsM m) p i).1.toNat).time_ ≤ ((leftP m q).f p.toNat).time_ := by
  intro i
  induction i with
  | zero => intro _; exact Int.le_refl _
  | succ i ih =>
    intro hi
    obtain ⟨f1, f2, _⟩ := followP_ok (left := leftP m q) (stepsM_ok ok) p0 p1 i
    have hr := follow_ok ok (to := q) p0 p1 i (by omega)
    obtain ⟨j, j1, j2, j3, j4, _⟩ := next_ok ok (to := q) f1 f2 (by omega)
    have ih := ih (by omega)
    have hlen := pSec_le (u := 6) (d := 9) (l := 12) (len := (m.Roads.f j).Length) (rise := hg m (m.Roads.f j).To - hg m (m.Roads.f j).From) (by omega) (by omega) (by omega) (road_len ok j1)
    have hlen2 := pSec_le (u := 6) (d := 9) (l := 12) (len := (m.Roads.f j).Length) (rise := hg m (m.Roads.f j).From - hg m (m.Roads.f j).To) (by omega) (by omega) (by omega) (road_len ok j1)
    have ht : 1 ≤ (nextP (leftP m q) (followP (leftP m q) (stepsM m) p i).1 (stepsM m)).time_ := by
      rcases j3 with ⟨_, e⟩ | ⟨_, e⟩
      · rw [e]; exact hlen.1
      · rw [e]; exact hlen2.1
    show ((leftP m q).f (nextP (leftP m q) (followP (leftP m q) (stepsM m) p i).1 (stepsM m)).to_.toNat).time_ ≤ _
    omega
theorem left_end {m : SMine} (ok : MineOK m) {q : Int} (q0 : 0 ≤ q) (q1 : q < m.Places.n) : ((leftP m q).f q.toNat).roads_ = 0 := by
  have h := spO_mono (turn (stepsM m)) q.toNat m.Places.n (cTo m.Places.n q)
  have ci := (leftP_ci ok q).r0 q.toNat (by omega)
  have h : cLe ((leftP m q).f q.toNat) ((cTo m.Places.n q).f q.toNat) := h
  unfold cLe at h
  rw [cTo_time (by omega), cTo_roads, if_pos rfl] at h
  omega
theorem w8_v {m : SMine} (ok : MineOK m) {p q : Int} (p0 : 0 ≤ p) (p1 : p < m.Places.n) (q0 : 0 ≤ q) (q1 : q < m.Places.n) {t k : Sq Int} (h : EqT m.Places.n (leftP m q) t k) (pf : ((leftP m q).f p.toNat).time_ < 1099511627776) (x : Int) :
    ref03_Way_l8 x q m.Places m.Roads t k (Sq.mk 0 (fun _ => (0 : Int))) p = some (.inl (followP (leftP m q) (stepsM m) p ((leftP m q).f p.toNat).roads_.toNat).2) := by
  have ci := leftP_ci ok q
  have np := ok.np
  have rp := ci.r0 p.toNat (by omega)
  have rn := leftP_roads ok q (v := p.toNat) (by omega)
  obtain ⟨R, hR⟩ : ∃ R : Nat, R = ((leftP m q).f p.toNat).roads_.toNat := ⟨_, rfl⟩
  have hRi : (R : Int) = ((leftP m q).f p.toNat).roads_ := by omega
  rw [← hR, ref03_Way_l8_eq]
  obtain ⟨g1, _⟩ := follow_end ok q0 p0 p1 pf R hRi (follow_le ok p0 p1 hRi R (Nat.le_refl _))
  refine loop_seq (step := fun v : (Sq Int) × Int => ref03_Way_l8_step x q m.Places m.Roads t k v.1 v.2) (fun i => ((followP (leftP m q) (stepsM m) p i).2, (followP (leftP m q) (stepsM m) p i).1)) R (z := .l (followP (leftP m q) (stepsM m) p R).2) (fun i hi => ?_) ?_
  · obtain ⟨f1, f2, f3⟩ := followP_ok (left := leftP m q) (stepsM_ok ok) p0 p1 i
    have hr := follow_ok ok (to := q) p0 p1 i (by omega)
    have hl := follow_le ok (q := q) p0 p1 hRi i (by omega)
    obtain ⟨j, j1, j2, j3, _, _⟩ := next_ok ok (to := q) f1 f2 (by omega)
    obtain ⟨z, hz⟩ : ∃ z, firstN (nG (leftP m q) (followP (leftP m q) (stepsM m) p i).1 (stepsM m)) (stepsM m).n 0 = some z := by
      cases e : firstN (nG (leftP m q) (followP (leftP m q) (stepsM m) p i).1 (stepsM m)) (stepsM m).n 0 with
      | some z => exact ⟨z, rfl⟩
      | none =>
        have en : nextP (leftP m q) (followP (leftP m q) (stepsM m) p i).1 (stepsM m) = ⟨-1, (followP (leftP m q) (stepsM m) p i).1, (followP (leftP m q) (stepsM m) p i).1, 0⟩ := by unfold nextP; rw [e]
        rw [en] at j3
        rcases j3 with ⟨_, e2⟩ | ⟨_, e2⟩
        · have : (-1 : Int) = (j : Int) := congrArg Sstep.road_ e2
          omega
        · have : (-1 : Int) = (j : Int) := congrArg Sstep.road_ e2
          omega
    have nx : nextP (leftP m q) (followP (leftP m q) (stepsM m) p i).1 (stepsM m) = ⟨z.1, z.2.1, z.2.2.1, z.2.2.2⟩ := by unfold nextP; rw [hz]
    have to0 := (nextP_to (left := leftP m q) (stepsM_ok ok) f1 f2).1
    rw [nx] at to0
    have fol : ((followP (leftP m q) (stepsM m) p (i + 1)).2, (followP (leftP m q) (stepsM m) p (i + 1)).1) = (pushI (followP (leftP m q) (stepsM m) p i).2 z.1, z.2.2.1) := by
      show (Sq.mk ((followP (leftP m q) (stepsM m) p i).2.n + 1) (fun k0 => (cond (Nat.blt k0 (followP (leftP m q) (stepsM m) p i).2.n) ((followP (leftP m q) (stepsM m) p i).2.f k0) (nextP (leftP m q) (followP (leftP m q) (stepsM m) p i).1 (stepsM m)).road_)), (nextP (leftP m q) (followP (leftP m q) (stepsM m) p i).1 (stepsM m)).to_) = _
      rw [nx]; rfl
    have ne : (followP (leftP m q) (stepsM m) p i).1 ≠ q := fun e => by
      rw [e, left_end ok q0 q1] at hr
      omega
    have w := w11_v ok ci h f1 f2 (by omega) x q (out := (followP (leftP m q) (stepsM m) p i).2) (by omega) hz to0 m.Roads.n 0 (Nat.zero_add _) rfl
    show (ref03_Way_l8_step x q m.Places m.Roads t k (followP (leftP m q) (stepsM m) p i).2 (followP (leftP m q) (stepsM m) p i).1).get = some (.next ((followP (leftP m q) (stepsM m) p (i + 1)).2, (followP (leftP m q) (stepsM m) p (i + 1)).1))
    rw [fol]
    unfold ref03_Way_l8_step
    rw [get_t (by simp [ne])]
    exact (get_sum w).trans rfl
  · show (ref03_Way_l8_step x q m.Places m.Roads t k (followP (leftP m q) (stepsM m) p R).2 (followP (leftP m q) (stepsM m) p R).1).get = _
    unfold ref03_Way_l8_step
    rw [get_f (by rw [g1]; simp)]; rfl
theorem ref03_Way_v {m : SMine} (ok : MineOK m) {p q : Int} (p0 : 0 ≤ p) (p1 : p < m.Places.n) (q0 : 0 ≤ q) (q1 : q < m.Places.n) : ref03_Way m p q = some (wayP m p q) := by
  have np := ok.np
  obtain ⟨t, k, e, h⟩ := to_v ok q0 q1
  have hp := h.h p.toNat (by omega)
  have fp := leftP_fin ok q p.toNat (by omega)
  have rn := leftP_roads ok q (v := p.toNat) (by omega)
  have rp := (leftP_ci ok q).r0 p.toNat (by omega)
  rw [ref03_Way_eq]; unfold ref03_Way_t
  rw [get_bind (ref01_Check_v m), get_f (by rw [(mineE_ok m).2 ok]; rfl), get_f (decide_eq_false (by omega)), get_f (decide_eq_false (by omega)), get_f (decide_eq_false (by omega)), get_f (decide_eq_false (by omega)), get_bind e]
  dsimp only
  rw [get_t (decide_eq_true ⟨p0, by have := h.tn; omega⟩)]
  by_cases c : t.f p.toNat < 0
  · rw [get_t (decide_eq_true c)]
    unfold wayP
    rw [if_pos (by rcases hp with hp | hp <;> omega)]; rfl
  · rw [get_f (decide_eq_false c)]
    have pf : ((leftP m q).f p.toNat).time_ < 1099511627776 := by rcases hp with hp | hp <;> omega
    have ht : t.f p.toNat = ((leftP m q).f p.toNat).time_ := by rcases hp with hp | hp <;> omega
    rw [get_sum (w8_v ok p0 p1 q0 q1 h pf p)]
    dsimp only [Sum.elim]
    rw [get_t (decide_eq_true ⟨p0, by have := h.tn; omega⟩), ht]
    unfold wayP
    rw [if_neg (by omega)]; rfl
theorem ways_same {m : SMine} (ok : MineOK m) (p q : Int) : ∃ r, walk_Way m p q = some r ∧ ref03_Way m p q = some r ∧ r.1.n ≤ 1000 := by
  have np := ok.np
  by_cases c : (0 ≤ p ∧ p < m.Places.n) ∧ (0 ≤ q ∧ q < m.Places.n)
  · obtain ⟨⟨p0, p1⟩, ⟨q0, q1⟩⟩ := c
    refine ⟨wayP m p q, walk_Way_v ok p0 p1 q0 q1, ref03_Way_v ok p0 p1 q0 q1, ?_⟩
    have rn := leftP_roads ok q (v := p.toNat) (by omega)
    have rp := (leftP_ci ok q).r0 p.toNat (by omega)
    unfold wayP
    split
    · exact Nat.zero_le _
    · show (followP (leftP m q) (stepsM m) p ((leftP m q).f p.toNat).roads_.toNat).2.n ≤ 1000
      rw [(followP_ok (left := leftP m q) (stepsM_ok ok) p0 p1 _).2.2]
      omega
  · have c' : ¬ (0 ≤ p ∧ p < m.Places.n) ∨ ¬ (0 ≤ q ∧ q < m.Places.n) := by omega
    refine ⟨_, walk_Way_out ok c', ?_, Nat.zero_le _⟩
    rw [ref03_Way_eq]; unfold ref03_Way_t
    rw [get_bind (ref01_Check_v m), get_f (by rw [(mineE_ok m).2 ok]; rfl)]
    by_cases a1 : p < 0
    · rw [get_t (decide_eq_true a1)]; rfl
    · rw [get_f (decide_eq_false a1)]
      by_cases a2 : p ≥ m.Places.n
      · rw [get_t (decide_eq_true a2)]; rfl
      · rw [get_f (decide_eq_false a2)]
        by_cases a3 : q < 0
        · rw [get_t (decide_eq_true a3)]; rfl
        · rw [get_f (decide_eq_false a3), get_t (decide_eq_true (by omega))]; rfl

/-! ### The law -/
theorem walkWays_true (codes : Sq Int) (hb : ∀ k, 0 ≤ codes.f k ∧ codes.f k ≤ 255) (a b : Int) : (law03_WalkWays_t codes a b).get = some true := by
  obtain ⟨c, e0, hc⟩ := New_ex codes hb
  obtain ⟨m, z, e1, hm⟩ := Codes_Mine_ex hc
  have ok := hm.ok
  have n1 := hm.n1
  obtain ⟨p, ep, _, _⟩ := Mod_ex a (m.Places.n : Int) (by omega)
  obtain ⟨q, eq, _, _⟩ := Mod_ex b (m.Places.n : Int) (by omega)
  unfold law03_WalkWays_t
  rw [get_bind e0, get_bind e1, get_bind ep, get_bind eq]
  have key : ∀ B : Sq SAnon30, B.n = 2 → law03_WalkWays_l4 m.Places m.Roads B 0 = some (.inl ()) := fun B hB => by
    rw [law03_WalkWays_l4_eq]
    refine (loop_first (step := fun v => law03_WalkWays_l4_step m.Places m.Roads B v) (n := 2) (fun _ => none) (fun i hi => ?_) ?_ 2 0 (Nat.zero_add _)).trans ?_
    · obtain ⟨r, r1, r2, r3⟩ := ways_same ok (B.f i).e0_ (B.f i).e1_
      unfold law03_WalkWays_l4_step
      rw [get_t (decide_eq_true (by omega)), get_t (dix (by omega)), toNat_nat, wr_next (by omega)]
      refine (get_bind r1).trans ((get_bind r2).trans ?_)
      rw [get_bind (ref01_Ints_same (a := r.1) (b := r.1) (by omega) rfl fun _ _ => rfl), get_f (b := !true) rfl, get_f (by simp), get_f (by simp)]; rfl
    · unfold law03_WalkWays_l4_step
      rw [get_f (decide_eq_false (by omega))]; rfl
    · rfl
  refine (get_sum (key _ rfl)).trans ?_
  dsimp only [Sum.elim]
  rw [get_bind awake3_true]; rfl
end Go.Proofs.YtfedelfcdjldlaaDoor.Ab
