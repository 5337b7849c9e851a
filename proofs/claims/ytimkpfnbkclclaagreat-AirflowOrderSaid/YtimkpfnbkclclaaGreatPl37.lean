/- A part of the proof, what is needed of it. -/
import Derived.Test.YtimkpfnbkclclaaGreatPl05
import Derived.Test.YtimkpfnbkclclaaGreatPl33
import Derived.Test.YtimkpfnbkclclaaGreatPl35
import Derived.Test.YtimkpfnbkclclaaGreatPl36
namespace Go.Proofs.YtimkpfnbkclclaaGreat.Ab
open Go
theorem asg {k j : Nat} {P : Nat → Prop} (h : ∀ j, j < k → P j) (e : P k) (hj : j < k + 1) : P j := by
  rcases Nat.lt_or_ge j k with c | c
  · exact h j c
  · rw [show j = k by omega]; exact e
def IsLo (F : Sq qB) (l : Sq qG) (m : Sq qE) (t : Int) (k j : Nat) (lo : Int) : Prop := ∀ x, lo ≤ x ↔ (F.f j).Low ≤ x ∧ ∀ i, i < k → Tgt F.n l (m.f i) → rdOf l (m.f i) = j → (atF (l.f (m.f i).Sensor.toNat) (m.f i) t).Low ≤ x
def IsHi (F : Sq qB) (l : Sq qG) (m : Sq qE) (t : Int) (k j : Nat) (hi : Int) : Prop := ∀ x, x ≤ hi ↔ x ≤ (F.f j).High ∧ ∀ i, i < k → Tgt F.n l (m.f i) → rdOf l (m.f i) = j → x ≤ (atF (l.f (m.f i).Sensor.toNat) (m.f i) t).High
theorem IsLo.skip {F : Sq qB} {l : Sq qG} {m : Sq qE} {t : Int} {k j : Nat} {lo : Int} (h : IsLo F l m t k j lo) (n : ¬ (Tgt F.n l (m.f k) ∧ rdOf l (m.f k) = j)) : IsLo F l m t (k + 1) j lo := fun x => (h x).trans ⟨fun q => ⟨q.1, fun i hi a b => by
    rcases Nat.lt_or_ge i k with c | c
    · exact q.2 i c a b
    · rw [show i = k by omega] at a b; exact absurd ⟨a, b⟩ n⟩, fun q => ⟨q.1, fun i hi => q.2 i (by omega)⟩⟩
theorem IsHi.skip {F : Sq qB} {l : Sq qG} {m : Sq qE} {t : Int} {k j : Nat} {hi : Int} (h : IsHi F l m t k j hi) (n : ¬ (Tgt F.n l (m.f k) ∧ rdOf l (m.f k) = j)) : IsHi F l m t (k + 1) j hi := fun x => (h x).trans ⟨fun q => ⟨q.1, fun i hi a b => by
    rcases Nat.lt_or_ge i k with c | c
    · exact q.2 i c a b
    · rw [show i = k by omega] at a b; exact absurd ⟨a, b⟩ n⟩, fun q => ⟨q.1, fun i hi => q.2 i (by omega)⟩⟩
theorem IsLo.take {F : Sq qB} {l : Sq qG} {m : Sq qE} {t : Int} {k j : Nat} {lo lo' : Int} (h : IsLo F l m t k j lo) (a : Tgt F.n l (m.f k)) (b : rdOf l (m.f k) = j) (e : ∀ x, lo' ≤ x ↔ lo ≤ x ∧ (atF (l.f (m.f k).Sensor.toNat) (m.f k) t).Low ≤ x) : IsLo F l m t (k + 1) j lo' := fun x => by
  rw [e x, h x]
  exact ⟨fun q => ⟨q.1.1, fun i hi a b => by
    rcases Nat.lt_or_ge i k with c | c
    · exact q.1.2 i c a b
    · rw [show i = k by omega]; exact q.2⟩, fun q => ⟨⟨q.1, fun i hi => q.2 i (by omega)⟩, q.2 k (by omega) a b⟩⟩
theorem IsHi.take {F : Sq qB} {l : Sq qG} {m : Sq qE} {t : Int} {k j : Nat} {hi hi' : Int} (h : IsHi F l m t k j hi) (a : Tgt F.n l (m.f k)) (b : rdOf l (m.f k) = j) (e : ∀ x, x ≤ hi' ↔ x ≤ hi ∧ x ≤ (atF (l.f (m.f k).Sensor.toNat) (m.f k) t).High) : IsHi F l m t (k + 1) j hi' := fun x => by
  rw [e x, h x]
  exact ⟨fun q => ⟨q.1.1, fun i hi a b => by
    rcases Nat.lt_or_ge i k with c | c
    · exact q.1.2 i c a b
    · rw [show i = k by omega]; exact q.2⟩, fun q => ⟨⟨q.1, fun i hi => q.2 i (by omega)⟩, q.2 k (by omega) a b⟩⟩
theorem IsLo.eq {F : Sq qB} {l : Sq qG} {m m' : Sq qE} {t : Int} {k j : Nat} {a b : Int} (h : IsLo F l m t k j a) (h' : IsLo F l m' t k j b) (e : ∀ i, i < k → ∃ i', i' < k ∧ m.f i' = m'.f i) (e' : ∀ i, i < k → ∃ i', i' < k ∧ m'.f i' = m.f i) : a = b := by
  have h1 : b ≤ a := (h' a).2 ⟨((h a).1 (Int.le_refl _)).1, fun i hi => by
    obtain ⟨i', hi', q⟩ := e i hi
    rw [← q]; exact ((h a).1 (Int.le_refl _)).2 i' hi'⟩
  have h2 : a ≤ b := (h b).2 ⟨((h' b).1 (Int.le_refl _)).1, fun i hi => by
    obtain ⟨i', hi', q⟩ := e' i hi
    rw [← q]; exact ((h' b).1 (Int.le_refl _)).2 i' hi'⟩
  omega
theorem IsHi.eq {F : Sq qB} {l : Sq qG} {m m' : Sq qE} {t : Int} {k j : Nat} {a b : Int} (h : IsHi F l m t k j a) (h' : IsHi F l m' t k j b) (e : ∀ i, i < k → ∃ i', i' < k ∧ m.f i' = m'.f i) (e' : ∀ i, i < k → ∃ i', i' < k ∧ m'.f i' = m.f i) : a = b := by
  have h1 : a ≤ b := (h' a).2 ⟨((h a).1 (Int.le_refl _)).1, fun i hi => by
    obtain ⟨i', hi', q⟩ := e i hi
    rw [← q]; exact ((h a).1 (Int.le_refl _)).2 i' hi'⟩
  have h2 : b ≤ a := (h b).2 ⟨((h' b).1 (Int.le_refl _)).1, fun i hi => by
    obtain ⟨i', hi', q⟩ := e' i hi
    rw [← q]; exact ((h' b).1 (Int.le_refl _)).2 i' hi'⟩
  omega
structure OrS (F : Sq qB) (l : Sq qG) (m : Sq qE) (t : Int) (k : Nat) (T : TS) : Prop where
  r : ∀ j, j < F.n → ∃ lo hi, IsLo F l m t k j lo ∧ IsHi F l m t k j hi ∧ ((T.z j = false ∧ lo ≤ hi ∧ T.o j = ⟨lo, hi⟩) ∨ (T.z j = true ∧ hi < lo ∧ T.o j = noS))
  b : ∀ v, T.b v → ∃ i, i < k ∧ Tgt F.n l (m.f i) ∧ v = (m.f i).Sensor ∧ T.z (rdOf l (m.f i)) = true
  y : ∀ j, j < F.n → T.z j = true → ∃ v, T.b v
theorem ash {F : Sq qB} {l : Sq qG} {m : Sq qE} {t : Int} (hF : ∀ j, j < F.n → (F.f j).Low ≤ (F.f j).High) : ∀ k, OrS F l m t k (trun F l m t k) := by
  intro k
  induction k with
  | zero => exact ⟨fun j hj => ⟨(F.f j).Low, (F.f j).High, fun x => ⟨fun q => ⟨q, fun i hi => absurd hi (Nat.not_lt_zero _)⟩, fun q => q.1⟩, fun x => ⟨fun q => ⟨q, fun i hi => absurd hi (Nat.not_lt_zero _)⟩, fun q => q.1⟩, .inl ⟨rfl, hF j hj, rfl⟩⟩, fun v q => q.elim, fun j _ q => by cases q⟩
  | succ k h =>
    by_cases c : Tgt F.n l (m.f k)
    · have hr : rdOf l (m.f k) < F.n := by have := c.2.2.2; unfold rdOf; omega
      obtain ⟨lo, hi, hlo, hhi, g⟩ := h.r _ hr
      have el : ∀ x, (if lo < (atF (l.f (m.f k).Sensor.toNat) (m.f k) t).Low then (atF (l.f (m.f k).Sensor.toNat) (m.f k) t).Low else lo) ≤ x ↔ lo ≤ x ∧ (atF (l.f (m.f k).Sensor.toNat) (m.f k) t).Low ≤ x := fun x => by split <;> omega
      have eh : ∀ x, x ≤ (if (atF (l.f (m.f k).Sensor.toNat) (m.f k) t).High < hi then (atF (l.f (m.f k).Sensor.toNat) (m.f k) t).High else hi) ↔ x ≤ hi ∧ x ≤ (atF (l.f (m.f k).Sensor.toNat) (m.f k) t).High := fun x => by split <;> omega
      have tl := hlo.take c rfl el
      have th := hhi.take c rfl eh
      rcases g with ⟨z0, le, oe⟩ | ⟨z1, lt, oe⟩
      · have ey : aqu ((trun F l m t k).o (rdOf l (m.f k))) (atF (l.f (m.f k).Sensor.toNat) (m.f k) t) = aqu ⟨lo, hi⟩ (atF (l.f (m.f k).Sensor.toNat) (m.f k) t) := by rw [oe]
        rw [aqJ rfl rfl ey c z0]
        by_cases d : (aqF ⟨lo, hi⟩ (atF (l.f (m.f k).Sensor.toNat) (m.f k) t)).Low > (aqF ⟨lo, hi⟩ (atF (l.f (m.f k).Sensor.toNat) (m.f k) t)).High
        · have em : aqu ⟨lo, hi⟩ (atF (l.f (m.f k).Sensor.toNat) (m.f k) t) = (noS, false) := if_pos d
          rw [em]
          refine ⟨fun j hj => ?_, fun v q => ?_, fun j hj _ => ⟨(m.f k).Sensor, .inr ⟨rfl, rfl⟩⟩⟩
          · dsimp only
            by_cases e : j = rdOf l (m.f k)
            · subst e
              exact ⟨_, _, tl, th, .inr ⟨by rw [if_pos rfl]; rfl, d, by rw [if_pos rfl]⟩⟩
            · obtain ⟨lo', hi', a1, a2, a3⟩ := h.r j hj
              exact ⟨lo', hi', a1.skip fun q => e q.2.symm, a2.skip fun q => e q.2.symm, by rw [if_neg e, if_neg e]; exact a3⟩
          · dsimp only
            rcases q with q | ⟨_, q⟩
            · obtain ⟨i, a1, a2, a3, a4⟩ := h.b v q
              refine ⟨i, by omega, a2, a3, ?_⟩
              split
              · rfl
              · exact a4
            · exact ⟨k, by omega, c, q, by rw [if_pos rfl]; rfl⟩
        · have em : aqu ⟨lo, hi⟩ (atF (l.f (m.f k).Sensor.toNat) (m.f k) t) = (aqF ⟨lo, hi⟩ (atF (l.f (m.f k).Sensor.toNat) (m.f k) t), true) := if_neg d
          rw [em]
          refine ⟨fun j hj => ?_, fun v q => ?_, fun j hj q => ?_⟩
          · dsimp only
            by_cases e : j = rdOf l (m.f k)
            · subst e
              exact ⟨_, _, tl, th, .inl ⟨by rw [if_pos rfl]; rfl, Int.not_lt.1 d, by rw [if_pos rfl]; rfl⟩⟩
            · obtain ⟨lo', hi', a1, a2, a3⟩ := h.r j hj
              exact ⟨lo', hi', a1.skip fun q => e q.2.symm, a2.skip fun q => e q.2.symm, by rw [if_neg e, if_neg e]; exact a3⟩
          · dsimp only at q ⊢
            rcases q with q | ⟨q, _⟩
            · obtain ⟨i, a1, a2, a3, a4⟩ := h.b v q
              refine ⟨i, by omega, a2, a3, ?_⟩
              rw [if_neg fun e => by rw [e, z0] at a4; cases a4]
              exact a4
            · cases q
          · dsimp only at q ⊢
            by_cases e : j = rdOf l (m.f k)
            · rw [if_pos e] at q; cases q
            · rw [if_neg e] at q
              obtain ⟨v, hv⟩ := h.y j hj q
              exact ⟨v, .inl hv⟩
      · rw [aqK fun q => by have := q.2; rw [z1] at this; cases this]
        refine ⟨fun j hj => ?_, fun v q => ?_, h.y⟩
        · by_cases e : j = rdOf l (m.f k)
          · subst e
            exact ⟨_, _, tl, th, .inr ⟨z1, by split <;> split <;> omega, oe⟩⟩
          · obtain ⟨lo', hi', a1, a2, a3⟩ := h.r j hj
            exact ⟨lo', hi', a1.skip fun q => e q.2.symm, a2.skip fun q => e q.2.symm, a3⟩
        · obtain ⟨i, a1, a2, a3, a4⟩ := h.b v q
          exact ⟨i, by omega, a2, a3, a4⟩
    · rw [aqK fun q => c q.1]
      refine ⟨fun j hj => ?_, fun v q => ?_, h.y⟩
      · obtain ⟨lo', hi', a1, a2, a3⟩ := h.r j hj
        exact ⟨lo', hi', a1.skip fun q => c q.1, a2.skip fun q => c q.1, a3⟩
      · obtain ⟨i, a1, a2, a3, a4⟩ := h.b v q
        exact ⟨i, by omega, a2, a3, a4⟩
theorem asv {L : Sq qB} (h0 : 0 < L.n) (h1 : L.n ≤ 1000) : ∃ lo hi s, Yt L = some (s, !decide (lo > hi)) ∧ (∀ x, lo ≤ x ↔ ∀ i, i < L.n → (L.f i).Low ≤ x) ∧ ∀ x, x ≤ hi ↔ ∀ i, i < L.n → x ≤ (L.f i).High := by
  obtain ⟨z, hz, lo, hi, rfl, g1, g2⟩ := pY (step := fun v : Int × Int × Int => KU L v.1 v.2.1 v.2.2)
    (fun v => ∃ k : Nat, v.2.2 = k ∧ k ≤ L.n ∧ (∀ x, v.1 ≤ x ↔ ∀ i, i < k → (L.f i).Low ≤ x) ∧ ∀ x, x ≤ v.2.1 ↔ ∀ i, i < k → x ≤ (L.f i).High) (fun v => L.n - v.2.2.toNat)
    (fun z => ∃ lo hi, z = .inl (lo, hi) ∧ (∀ x, lo ≤ x ↔ ∀ i, i < L.n → (L.f i).Low ≤ x) ∧ ∀ x, x ≤ hi ↔ ∀ i, i < L.n → x ≤ (L.f i).High) (fun v hv => by
      obtain ⟨lo, hi, w⟩ := v
      obtain ⟨k, e, hk, hl, hh⟩ := hv
      dsimp only at e hl hh ⊢
      subst e
      unfold KU
      rcases Nat.lt_or_ge k L.n with c | c
      · rw [qo (dlt c), qo (dix c), qo (dix c), pI]
        refine ⟨_, rfl, ⟨k + 1, qc (by omega), c, fun x => ?_, fun x => ?_⟩, by dsimp only; rw [qc (by omega)]; omega⟩
        · dsimp only
          have s : (if lo < (L.f k).Low then (L.f k).Low else lo) ≤ x ↔ lo ≤ x ∧ (L.f k).Low ≤ x := by split <;> omega
          rw [s, hl x]
          exact ⟨fun q i hi => asg q.1 q.2 hi, fun q => ⟨fun i hi => q i (by omega), q k (by omega)⟩⟩
        · dsimp only
          have s : x ≤ (if (L.f k).High < hi then (L.f k).High else hi) ↔ x ≤ hi ∧ x ≤ (L.f k).High := by split <;> omega
          rw [s, hh x]
          exact ⟨fun q i hi => asg q.1 q.2 hi, fun q => ⟨fun i hi => q i (by omega), q k (by omega)⟩⟩
      · obtain rfl : k = L.n := by omega
        rw [qm (dge (by omega))]
        exact ⟨_, rfl, _, _, rfl, hl, hh⟩)
    ((L.f 0).Low, (L.f 0).High, 1) ⟨1, rfl, h0, fun x => ⟨fun q i hi => by rw [show i = 0 by omega]; exact q, fun q => q 0 (by omega)⟩, fun x => ⟨fun q i hi => by rw [show i = 0 by omega]; exact q, fun q => q 0 (by omega)⟩⟩
  rw [aib]; unfold Zk
  rw [qm (by simp; omega), qo (decide_eq_true ⟨by omega, by omega⟩), pV (by rw [agz]; exact hz)]
  dsimp only [Sum.elim]
  by_cases c : lo > hi
  · rw [qo (decide_eq_true c), get_bind aqm]
    exact ⟨lo, hi, _, by rw [decide_eq_true c]; rfl, g1, g2⟩
  · rw [qm (decide_eq_false c)]
    exact ⟨lo, hi, _, by rw [decide_eq_false c]; rfl, g1, g2⟩
theorem asn {F : Sq qB} {l : Sq qG} {m : Sq qE} {t : Int} (hm : m.n ≤ 12) (ms : ∀ i, i < m.n → MsOK (m.f i) t) {j : Nat} (hj : j < F.n) {lo hi : Int} (hl : IsLo F l m t m.n j lo) (hh : IsHi F l m t m.n j hi) (lt : hi < lo) : Y3 l m F j t = some false := by
  obtain ⟨z, hz, L, rfl, l0, l1, g1, g2⟩ := pY (step := fun v : Sq qB × Int => Ih l j t m v.1 v.2)
    (fun v => ∃ k : Nat, v.2 = k ∧ k ≤ m.n ∧ 0 < v.1.n ∧ v.1.n ≤ k + 1 ∧ (∀ x, (∀ i, i < v.1.n → (v.1.f i).Low ≤ x) ↔ (F.f j).Low ≤ x ∧ ∀ i, i < k → Tgt F.n l (m.f i) → rdOf l (m.f i) = j → (atF (l.f (m.f i).Sensor.toNat) (m.f i) t).Low ≤ x) ∧
      ∀ x, (∀ i, i < v.1.n → x ≤ (v.1.f i).High) ↔ x ≤ (F.f j).High ∧ ∀ i, i < k → Tgt F.n l (m.f i) → rdOf l (m.f i) = j → x ≤ (atF (l.f (m.f i).Sensor.toNat) (m.f i) t).High) (fun v => m.n - v.2.toNat)
    (fun z => ∃ L, z = .inl L ∧ 0 < L.n ∧ L.n ≤ 1000 ∧ (∀ x, (∀ i, i < L.n → (L.f i).Low ≤ x) ↔ lo ≤ x) ∧ ∀ x, (∀ i, i < L.n → x ≤ (L.f i).High) ↔ x ≤ hi) (fun v hv => by
      obtain ⟨L, w⟩ := v
      obtain ⟨k, e, hk, n0, n1, gl, gh⟩ := hv
      dsimp only at e n0 n1 gl gh ⊢
      subst e
      unfold Ih
      rcases Nat.lt_or_ge k m.n with hi' | hi'
      · have dn : m.n - (wr ((k : Int) + 1)).toNat < m.n - (k : Int).toNat := by rw [qc (by omega)]; omega
        have skip : ¬ (Tgt F.n l (m.f k) ∧ rdOf l (m.f k) = j) → ∃ k2 : Nat, wr ((k : Int) + 1) = k2 ∧ k2 ≤ m.n ∧ 0 < L.n ∧ L.n ≤ k2 + 1 ∧ (∀ x, (∀ i, i < L.n → (L.f i).Low ≤ x) ↔ (F.f j).Low ≤ x ∧ ∀ i, i < k2 → Tgt F.n l (m.f i) → rdOf l (m.f i) = j → (atF (l.f (m.f i).Sensor.toNat) (m.f i) t).Low ≤ x) ∧
            ∀ x, (∀ i, i < L.n → x ≤ (L.f i).High) ↔ x ≤ (F.f j).High ∧ ∀ i, i < k2 → Tgt F.n l (m.f i) → rdOf l (m.f i) = j → x ≤ (atF (l.f (m.f i).Sensor.toNat) (m.f i) t).High := fun n =>
          ⟨k + 1, qc (by omega), hi', n0, by omega, fun x => (gl x).trans ⟨fun q => ⟨q.1, fun i hi a b => by
            rcases Nat.lt_or_ge i k with c | c
            · exact q.2 i c a b
            · rw [show i = k by omega] at a b; exact absurd ⟨a, b⟩ n⟩, fun q => ⟨q.1, fun i hi => q.2 i (by omega)⟩⟩, fun x => (gh x).trans ⟨fun q => ⟨q.1, fun i hi a b => by
            rcases Nat.lt_or_ge i k with c | c
            · exact q.2 i c a b
            · rw [show i = k by omega] at a b; exact absurd ⟨a, b⟩ n⟩, fun q => ⟨q.1, fun i hi => q.2 i (by omega)⟩⟩⟩
        rw [qo (dlt hi'), qo (dix hi'), pI]
        by_cases c0 : (m.f k).Sensor ≥ 0
        case neg => rw [qm (decide_eq_false c0)]; exact ⟨_, rfl, skip fun q => c0 q.1.1, dn⟩
        rw [qo (decide_eq_true c0)]
        by_cases c1 : (m.f k).Sensor < l.n
        case neg => rw [qm (decide_eq_false c1)]; exact ⟨_, rfl, skip fun q => c1 q.1.2.1, dn⟩
        have ix : decide ((0 : Int) ≤ (m.f k).Sensor ∧ (m.f k).Sensor < ((l.n : Nat) : Int)) = true := decide_eq_true ⟨c0, c1⟩
        rw [qo (decide_eq_true c1), qo ix]
        by_cases c2 : (l.f (m.f k).Sensor.toNat).Kind = 3
        case neg => rw [qm (by simpa using c2)]; exact ⟨_, rfl, skip fun q => c2 q.1.2.2.1, dn⟩
        rw [qo (by rw [c2]; rfl), qo ix]
        by_cases c3 : (l.f (m.f k).Sensor.toNat).Target = j
        case neg => rw [qm (by simpa using c3)]; exact ⟨_, rfl, skip fun q => c3 (by have := q.1.2.2.2; have e := q.2; unfold rdOf at e; omega), dn⟩
        have tg : Tgt F.n l (m.f k) := ⟨c0, c1, c2, by omega, by omega⟩
        have rd : rdOf l (m.f k) = j := by unfold rdOf; omega
        rw [qo (by rw [c3]; simp), qo ix, get_bind (ara c2 (ms k hi')), qo (decide_eq_true ⟨by omega, by omega⟩)]
        refine ⟨_, rfl, ⟨k + 1, qc (by omega), hi', by dsimp only; omega, by dsimp only; omega, fun x => ?_, fun x => ?_⟩, dn⟩
        · constructor
          · intro q
            have q1 := (gl x).1 fun i hi => by
              have w : cond (Nat.blt i L.n) (L.f i).Low (atF (l.f (m.f k).Sensor.toNat) (m.f k) t).Low ≤ x := q i (Nat.lt_succ_of_lt hi)
              rw [ajf hi] at w; exact w
            exact ⟨q1.1, fun i hi a b => by
              rcases Nat.lt_or_ge i k with c | c
              · exact q1.2 i c a b
              · have w : cond (Nat.blt L.n L.n) (L.f L.n).Low (atF (l.f (m.f k).Sensor.toNat) (m.f k) t).Low ≤ x := q L.n (Nat.lt_succ_self _)
                rw [ajl (Nat.le_refl _)] at w
                rw [show i = k by omega]; exact w⟩
          · intro q i hi
            have g := (gl x).2 ⟨q.1, fun i hi => q.2 i (by omega)⟩
            have hi : i < L.n + 1 := hi
            show cond (Nat.blt i L.n) (L.f i).Low (atF (l.f (m.f k).Sensor.toNat) (m.f k) t).Low ≤ x
            by_cases c : i < L.n
            · rw [ajf c]; exact g i c
            · rw [ajl (by omega)]; exact q.2 k (by omega) tg rd
        · constructor
          · intro q
            have q1 := (gh x).1 fun i hi => by
              have w : x ≤ cond (Nat.blt i L.n) (L.f i).High (atF (l.f (m.f k).Sensor.toNat) (m.f k) t).High := q i (Nat.lt_succ_of_lt hi)
              rw [ajf hi] at w; exact w
            exact ⟨q1.1, fun i hi a b => by
              rcases Nat.lt_or_ge i k with c | c
              · exact q1.2 i c a b
              · have w : x ≤ cond (Nat.blt L.n L.n) (L.f L.n).High (atF (l.f (m.f k).Sensor.toNat) (m.f k) t).High := q L.n (Nat.lt_succ_self _)
                rw [ajl (Nat.le_refl _)] at w
                rw [show i = k by omega]; exact w⟩
          · intro q i hi
            have g := (gh x).2 ⟨q.1, fun i hi => q.2 i (by omega)⟩
            have hi : i < L.n + 1 := hi
            show x ≤ cond (Nat.blt i L.n) (L.f i).High (atF (l.f (m.f k).Sensor.toNat) (m.f k) t).High
            by_cases c : i < L.n
            · rw [ajf c]; exact g i c
            · rw [ajl (by omega)]; exact q.2 k (by omega) tg rd
      · obtain rfl : k = m.n := by omega
        rw [qm (dge (by omega))]
        exact ⟨_, rfl, _, rfl, n0, by omega, fun x => (gl x).trans (hl x).symm, fun x => (gh x).trans (hh x).symm⟩)
    (⟨1, fun _ => F.f j⟩, 0) ⟨0, rfl, Nat.zero_le _, Nat.one_pos, Nat.le_refl _, fun x => ⟨fun q => ⟨q 0 Nat.one_pos, fun i hi => absurd hi (Nat.not_lt_zero _)⟩, fun q i _ => q.1⟩, fun x => ⟨fun q => ⟨q 0 Nat.one_pos, fun i hi => absurd hi (Nat.not_lt_zero _)⟩, fun q i _ => q.1⟩⟩
  obtain ⟨lo', hi', s, em, a1, a2⟩ := asv l0 l1
  have e1 : lo' = lo := by
    have p1 := ((a1 lo).trans (g1 lo)).2 (Int.le_refl _)
    have p2 := ((a1 lo').trans (g1 lo')).1 (Int.le_refl _)
    omega
  have e2 : hi' = hi := by
    have p1 := ((a2 hi).trans (g2 hi)).2 (Int.le_refl _)
    have p2 := ((a2 hi').trans (g2 hi')).1 (Int.le_refl _)
    omega
  rw [agY]; unfold TF
  rw [qo (dix hj), pI, pV (by rw [ae2]; exact hz)]
  dsimp only [Sum.elim]
  rw [get_bind em, e1, e2, decide_eq_true (show lo > hi from lt)]; rfl
theorem asx (b : Bool) (x y : qE) : (qE.mk (cond b x.Sensor y.Sensor) (cond b x.Time y.Time) (qB.mk (cond b x.Span.Low y.Span.Low) (cond b x.Span.High y.Span.High))) = cond b x y := by
  cases b <;> rfl
theorem asw (time : Int) (F : Sq qB) (l : Sq qG) {m : Sq qE} (hm : m.n ≤ 12) : ∃ R, GK time F l m ⟨0, fun _ => ⟨0, 0, ⟨0, 0⟩⟩⟩ 0 = some (.inl R) ∧ R.n = m.n ∧ ∀ j, j < m.n → R.f j = m.f (m.n - 1 - j) := by
  obtain ⟨z, hz, R, rfl, g1, g2⟩ := pY (step := fun v : Sq qE × Int => Dr time F l m v.1 v.2)
    (fun v => ∃ k : Nat, v.2 = k ∧ k ≤ m.n ∧ v.1.n = k ∧ ∀ j, j < k → v.1.f j = m.f (k - 1 - j)) (fun v => m.n - v.2.toNat)
    (fun z => ∃ R, z = .inl R ∧ R.n = m.n ∧ ∀ j, j < m.n → R.f j = m.f (m.n - 1 - j)) (fun v hv => by
      obtain ⟨L, w⟩ := v
      obtain ⟨k, e, hk, hn, hf⟩ := hv
      dsimp only at e hn hf ⊢
      subst e
      unfold Dr
      rcases Nat.lt_or_ge k m.n with c | c
      · rw [qo (dlt c), qo (dix c), qo (decide_eq_true ⟨by omega, by omega⟩), pI]
        refine ⟨_, rfl, ⟨k + 1, qc (by omega), c, by dsimp only; omega, fun j hj => ?_⟩, by dsimp only; rw [qc (by omega)]; omega⟩
        dsimp only
        rw [asx]
        by_cases q : j < 1
        · rw [ajf q, show k + 1 - 1 - j = k by omega]; rfl
        · rw [ajl (by omega), show k + 1 - 1 - j = k - 1 - (j - 1) by omega]; exact hf (j - 1) (by omega)
      · obtain rfl : k = m.n := by omega
        rw [qm (dge (by omega))]
        exact ⟨_, rfl, _, rfl, hn, hf⟩)
    (⟨0, fun _ => ⟨0, 0, ⟨0, 0⟩⟩⟩, 0) ⟨0, rfl, Nat.zero_le _, rfl, fun j hj => absurd hj (Nat.not_lt_zero _)⟩
  exact ⟨R, by rw [acD]; exact hz, g1, g2⟩
theorem asl {F : Sq qB} {l : Sq qG} {m : Sq qE} {t : Int} {T : TS} {k : Nat} {B : Sq Int} (h : OrS F l m t k T) (i : ∀ v, In B v ↔ T.b v) : B.n = 0 ↔ ∀ j, j < F.n → T.z j = false := by
  constructor
  · intro e j hj
    cases z : T.z j with
    | false => rfl
    | true =>
      obtain ⟨v, hv⟩ := h.y j hj z
      obtain ⟨q, hq, _⟩ := (i v).2 hv
      omega
  · intro a
    rcases Nat.eq_zero_or_pos B.n with e | e
    · exact e
    · obtain ⟨i', _, tg, _, z⟩ := h.b _ ((i _).1 ⟨0, e, rfl⟩)
      have hr : rdOf l (m.f i') < F.n := by have := tg.2.2.2; unfold rdOf; omega
      rw [a _ hr] at z; cases z
theorem ar9 (codes : Sq Int) (hb : ∀ k, 0 ≤ codes.f k ∧ codes.f k ≤ 255) (time : Int) (hz : 0 ≤ time ∧ time ≤ 255) : (Ig codes time).get = some true := by
  obtain ⟨h0, h1⟩ := hz
  obtain ⟨c, e0, hc⟩ := aqk codes hb
  obtain ⟨a, s, x, b, e1, b0, b1, md⟩ := aos hc
  have nr := md.nr
  obtain ⟨_, qn⟩ := md.lens
  have qb : ∀ j, j < x.Flows.n → -1048576 ≤ x.Flows.f j ∧ x.Flows.f j ≤ 1048576 := fun j hj => md.fit.qb j (by omega)
  obtain ⟨F, b2, e2, p0, p1, Fn, Ff⟩ := arl (hc.at b0 b1) (by omega) qb
  obtain ⟨l, m, b3, e3, q0, q1, fd⟩ := arG (hc.at p0 p1) (by omega) qb false
  have mn := fd.mn
  obtain ⟨R, e4, Rn, Rf⟩ := asw time F l (m := m) (by omega)
  have ok : ∀ y, MsD x.Flows l false y → MsOK y time := fun y h => by have h1 := h.t; have h2 := h.lo; have h3 := h.hi; unfold MsOK; omega
  have mo : ∀ i, i < m.n → MsOK (m.f i) time := fun i hi => ok _ (fd.m i hi)
  have ro : ∀ i, i < R.n → MsOK (R.f i) time := fun i hi => by rw [Rf i (by omega)]; exact mo _ (by omega)
  obtain ⟨O, B, f1, g1⟩ := aqw (F := F) (l := l) (m := m) (t := time) (by omega) (by omega) fun i hi _ => mo i hi
  obtain ⟨O', B', f2, g2⟩ := aqw (F := F) (l := l) (m := R) (t := time) (by omega) (by omega) fun i hi _ => ro i hi
  have hF : ∀ j, j < F.n → (F.f j).Low ≤ (F.f j).High := fun j hj => by have := Ff j (by omega); omega
  have oMm := ash (l := l) (m := m) (t := time) hF m.n
  have oR := ash (l := l) (m := R) (t := time) hF m.n
  have gO' := g2.e
  have gB' := g2.i
  rw [Rn] at gO' gB'
  have same : ∀ j, j < F.n → ((trun F l m time m.n).z j = (trun F l R time m.n).z j) ∧ ((trun F l m time m.n).z j = false → (trun F l m time m.n).o j = (trun F l R time m.n).o j) := fun j hj => by
    obtain ⟨lo, hi, a1, a2, a3⟩ := oMm.r j hj
    obtain ⟨lo', hi', c1, c2, c3⟩ := oR.r j hj
    have ea : ∀ i, i < m.n → ∃ i', i' < m.n ∧ m.f i' = R.f i := fun i hi => ⟨m.n - 1 - i, by omega, (Rf i hi).symm⟩
    have eb : ∀ i, i < m.n → ∃ i', i' < m.n ∧ R.f i' = m.f i := fun i hi => ⟨m.n - 1 - i, by omega, by rw [Rf _ (by omega), show m.n - 1 - (m.n - 1 - i) = i by omega]⟩
    have el := a1.eq c1 ea eb
    have eh := a2.eq c2 ea eb
    subst el eh
    rcases a3 with ⟨d1, d2, d3⟩ | ⟨d1, d2, d3⟩ <;> rcases c3 with ⟨f1, f2, f3⟩ | ⟨f1, f2, f3⟩
    · exact ⟨by rw [d1, f1], fun _ => by rw [d3, f3]⟩
    · omega
    · omega
    · exact ⟨by rw [d1, f1], fun q => by rw [d1] at q; cases q⟩
  have nB := asl oMm g1.i
  have nB' := asl oR gB'
  have both : B.n = 0 ↔ B'.n = 0 := nB.trans ((⟨fun h j hj => by rw [← (same j hj).1]; exact h j hj, fun h j hj => by rw [(same j hj).1]; exact h j hj⟩ : _ ↔ _).trans nB'.symm)
  have On := g1.nn
  have On' := g2.nn
  have Bn := g1.le
  have wt : wr time = time := pJ (by omega) (by omega)
  have key : FR time F l m O B O' 0 = some (.inl ()) := by
    rw [abW]
    refine (oM (step := fun v => Co time F l m O B O' v) (n := B.n) (fun _ => none) (fun i hi => ?_) ?_ B.n 0 (Nat.zero_add _)).trans ?_
    · unfold Co
      obtain ⟨i', hi', tg, ve, z⟩ := oMm.b _ ((g1.i _).1 ⟨i, hi, rfl⟩)
      obtain ⟨t0, t1, t2, t3, t4⟩ := id tg
      have hr : rdOf l (m.f i') < F.n := by unfold rdOf; omega
      have te : (l.f (m.f i').Sensor.toNat).Target = ((rdOf l (m.f i') : Nat) : Int) := by unfold rdOf; omega
      obtain ⟨lo, hi2, a1, a2, a3⟩ := oMm.r _ hr
      have a3 : hi2 < lo ∧ (trun F l m time m.n).o (rdOf l (m.f i')) = noS := by
        rcases a3 with ⟨d, _⟩ | ⟨_, d⟩
        · rw [d] at z; cases z
        · exact d
      have ov : O.f (rdOf l (m.f i')) = noS := by rw [g1.e _ hr]; exact a3.2
      have ix : decide ((0 : Int) ≤ (m.f i').Sensor ∧ (m.f i').Sensor < ((l.n : Nat) : Int)) = true := decide_eq_true ⟨t0, t1⟩
      rw [qo (dlt hi), qo (dix hi), pI, ve, qm (decide_eq_false (by omega)), qm (decide_eq_false (by omega)), qo ix, te, qo (dix (by omega)), pI, ov, qm (by rfl), qm (by rfl), qo ix, wt, get_bind (asn (by omega) mo hr a1 a2 a3.1), qm rfl, qc (by omega)]; rfl
    · unfold Co
      rw [qm (dge (Nat.le_refl _))]; rfl
    · rw [oL fun _ _ _ => rfl]
  unfold Ig
  rw [get_bind e0, get_bind e1]
  dsimp only
  rw [get_bind e2]
  dsimp only
  rw [get_bind e3]
  dsimp only
  rw [pV e4]
  dsimp only [Sum.elim]
  rw [wt, get_bind f1, get_bind f2]
  dsimp only
  rw [qm (by rw [On]; simp), qm (by rw [On']; simp)]
  by_cases z : B.n = 0
  · have z' := both.1 z
    have es : Gd O O' = some true := alH (by omega) (by omega) fun j hj => by
      rw [g1.e j (by omega), gO' j (by omega)]
      exact (same j (by omega)).2 (nB.1 z j (by omega))
    rw [qm (by rw [z, z']; rfl), pV key]
    dsimp only [Sum.elim]
    rw [qm (decide_eq_false (by omega)), get_bind es, qo rfl, get_bind arF]; rfl
  · have z' : ¬ B'.n = 0 := fun q => z (both.2 q)
    have w : (((B.n : Nat) : Int) == 0) = false := by simp; omega
    have w' : (((B'.n : Nat) : Int) == 0) = false := by simp; omega
    rw [qm (by rw [w, w']; rfl), pV key]
    dsimp only [Sum.elim]
    rw [qo (decide_eq_true (by omega)), get_bind arF]; rfl
end Go.Proofs.YtimkpfnbkclclaaGreat.Ab
