/- A part of the proof, what is needed of it. -/
import Derived.Test.YtimkpfnbkclclaaGreatPk05
import Derived.Test.YtimkpfnbkclclaaGreatPk06
namespace Go.Proofs.YtimkpfnbkclclaaGreat.Ab
open Go
structure CdOK (c : qF) : Prop where
  n : c.l_.n ≤ 300
  a0 : 0 ≤ c.at_
  a1 : c.at_ ≤ 300
  b : ∀ k, 0 ≤ c.l_.f k ∧ c.l_.f k ≤ 255
theorem CdOK.at {c : qF} (h : CdOK c) {a : Int} (h0 : 0 ≤ a) (h1 : a ≤ 300) : CdOK ⟨c.l_, a⟩ := ⟨h.n, h0, h1, h.b⟩
theorem aiO {c : qF} (hc : CdOK c) (n : Int) (hn : n ≤ 1000000) : ∃ v a, qJ c n = some (v, a) ∧ 0 ≤ a ∧ a ≤ 300 ∧ 0 ≤ v ∧ (1 ≤ n → v < n) ∧ (n < 1 → v = 0) := by
  rw [ahV]
  unfold YP
  have h0 := hc.a0; have h1 := hc.a1; have h2 := hc.n
  by_cases c1 : n < 1
  · rw [qo (decide_eq_true c1)]
    exact ⟨0, c.at_, rfl, h0, h1, Int.le_refl _, fun h => by omega, fun _ => rfl⟩
  rw [qm (decide_eq_false c1)]
  by_cases c2 : c.at_ ≥ (c.l_.n : Int)
  · rw [qo (decide_eq_true c2)]
    exact ⟨0, c.at_, rfl, h0, h1, Int.le_refl _, fun h => by omega, fun _ => rfl⟩
  rw [qm (decide_eq_false c2)]
  have e1 : wr (c.at_ + 1) = c.at_ + 1 := pJ (by omega) (by omega)
  have e2 : wr (c.at_ + 1 - 1) = c.at_ := by rw [pJ (by omega) (by omega)]; omega
  have e4 : wr (c.at_ + 1 + 1) = c.at_ + 2 := by rw [pJ (by omega) (by omega)]; omega
  have e3 : (n != 0) = true := by simp; omega
  have wb : ∀ k, wr (c.l_.f k) = c.l_.f k := fun k => pJ (by have := hc.b k; omega) (by have := hc.b k; omega)
  have lt : ∀ x : Int, x.tmod n < n := fun x => Int.tmod_lt_of_pos x (by omega)
  rw [e1, e2, qo (decide_eq_true ⟨by omega, by omega⟩)]
  simp only [wb, e4]
  by_cases c3 : n > 256
  · rw [qo (decide_eq_true c3)]
    by_cases c4 : c.at_ + 1 < (c.l_.n : Int)
    · rw [qo (decide_eq_true c4), qo (decide_eq_true ⟨by omega, c4⟩), qo e3]
      have q1 := hc.b c.at_.toNat
      have q2 := hc.b (c.at_ + 1).toNat
      have w1 : wr (c.l_.f c.at_.toNat * 256) = c.l_.f c.at_.toNat * 256 := pJ (by omega) (by omega)
      have w2 : wr (c.l_.f c.at_.toNat * 256 + c.l_.f (c.at_ + 1).toNat) = c.l_.f c.at_.toNat * 256 + c.l_.f (c.at_ + 1).toNat := pJ (by omega) (by omega)
      rw [w1, w2]
      exact ⟨_, _, rfl, by omega, by omega, Int.tmod_nonneg _ (by omega), fun _ => lt _, fun h => by omega⟩
    · rw [qm (decide_eq_false c4), qo e3]
      exact ⟨_, _, rfl, by omega, by omega, Int.tmod_nonneg _ (hc.b _).1, fun _ => lt _, fun h => by omega⟩
  · rw [qm (decide_eq_false c3), qo e3]
    exact ⟨_, _, rfl, by omega, by omega, Int.tmod_nonneg _ (hc.b _).1, fun _ => lt _, fun h => by omega⟩
theorem ai8 {c : qF} (hc : CdOK c) (n : Int) (hn : n ≤ 1000000) : ∃ v a, ze c n = some (v, a) ∧ 0 ≤ a ∧ a ≤ 300 := by
  obtain ⟨v, a, e, h0, h1, _⟩ := aiO hc n hn
  rw [air]; unfold aas
  rw [get_bind e]
  exact ⟨_, _, rfl, h0, h1⟩
theorem aiT {c : qF} (hc : CdOK c) (lo hi : Int) (h : lo ≤ hi) (hl : -10000 ≤ lo) (hh : hi ≤ 10000) : ∃ v a, qQ c lo hi = some (v, a) ∧ 0 ≤ a ∧ a ≤ 300 ∧ lo ≤ v ∧ v ≤ hi := by
  have e1 : wr (hi - lo) = hi - lo := pJ (by omega) (by omega)
  have e2 : wr (hi - lo + 1) = hi - lo + 1 := pJ (by omega) (by omega)
  obtain ⟨v, a, e, h0, h1, h2, h3, _⟩ := aiO hc (hi - lo + 1) (by omega)
  have h3 := h3 (by omega)
  rw [ahe]; unfold VI
  rw [e1, e2, get_bind e]
  have e3 : wr (lo + v) = lo + v := pJ (by omega) (by omega)
  exact ⟨lo + v, a, by rw [DT.get_leaf]; dsimp only; rw [e3], h0, h1, by omega, by omega⟩
structure RdD (r : qC) : Prop where
  l0 : 1 ≤ r.Length
  l1 : r.Length ≤ 400
  a0 : 4 ≤ r.Area
  a1 : r.Area ≤ 30
  r0 : 1 ≤ r.Rest.Low
  r1 : r.Rest.Low ≤ r.Rest.High
  r2 : r.Rest.High ≤ 22
theorem akk {c : qF} (hc : CdOK c) (p q : Int) : ∃ r a, XV c p q = some (r, a) ∧ 0 ≤ a ∧ a ≤ 300 ∧ RdD r ∧ r.From = p ∧ r.To = q ∧ r.Closed = false := by
  obtain ⟨v1, a1, e1, l1, u1, x1, y1⟩ := aiT hc 1 400 (by omega) (by omega) (by omega)
  obtain ⟨v2, a2, e2, l2, u2, x2, y2⟩ := aiT (hc.at l1 u1) 4 30 (by omega) (by omega) (by omega)
  obtain ⟨v3, a3, e3, l3, u3, x3, y3, _⟩ := aiO (hc.at l2 u2) 4 (by omega)
  obtain ⟨v4, a4, e4, l4, u4, x4, y4⟩ := aiT (hc.at l3 u3) 1 20 (by omega) (by omega) (by omega)
  obtain ⟨v5, a5, e5, l5, u5, x5, y5, _⟩ := aiO (hc.at l4 u4) 3 (by omega)
  obtain ⟨v6, a6, e6, l6, u6, x6, y6⟩ := aiT (hc.at l5 u5) (-300) 300 (by omega) (by omega) (by omega)
  obtain ⟨v7, a7, e7, l7, u7, x7, y7, _⟩ := aiO (hc.at l6 u6) 20 (by omega)
  have y5 := y5 (by omega)
  rw [ahW]; unfold YQ
  rw [get_bind e1, get_bind e2, get_bind e3, get_bind e4, get_bind e5, get_bind e6, get_bind e7]
  have w5 : wr (v4 + v5) = v4 + v5 := pJ (by omega) (by omega)
  refine ⟨_, _, rfl, l7, u7, ⟨x1, y1, x2, y2, x4, ?_, ?_⟩, rfl, rfl, rfl⟩
  · show v4 ≤ wr (v4 + v5); omega
  · show wr (v4 + v5) ≤ 22; omega
theorem ajf {k n : Nat} (h : k < n) : Nat.blt k n = true := Nat.ble_eq_true_of_le h
theorem ajl {k n : Nat} (h : n ≤ k) : Nat.blt k n = false := by
  cases hb : Nat.blt k n with
  | false => rfl
  | true => have : k < n := Nat.le_of_ble_eq_true hb; omega
structure CvD (c : Sq qH) (q : Int) : Prop where
  n0 : 1 ≤ c.n
  f : ∀ i, i < c.n → -20 ≤ (c.f i).Flow ∧ (c.f i).Flow ≤ 10 + 40 * q ∧ 0 ≤ (c.f i).Pressure ∧ (c.f i).Pressure ≤ 3000
  m : ∀ i, 0 < i → i < c.n → (c.f (i - 1)).Flow < (c.f i).Flow ∧ (c.f i).Pressure ≤ (c.f (i - 1)).Pressure
theorem anc {n : Nat} (h0 : 1 ≤ n) (h : n ≤ 1000000) : wr ((n : Int) - 1) = ((n - 1 : Nat) : Int) := by rw [pJ (by omega) (by omega)]; omega
theorem alA {c : qF} (hc : CdOK c) : ∃ l a, aar c = some (l, a) ∧ 0 ≤ a ∧ a ≤ 300 ∧ CvD l 3 ∧ l.n ≤ 4 := by
  obtain ⟨v1, a1, e1, l1, u1, x1, y1⟩ := aiT hc (-20) 10 (by omega) (by omega) (by omega)
  obtain ⟨v2, a2, e2, l2, u2, x2, y2⟩ := aiT (hc.at l1 u1) 500 3000 (by omega) (by omega) (by omega)
  obtain ⟨v3, a3, e3, l3, u3, x3, y3, _⟩ := aiO (hc.at l2 u2) 4 (by omega)
  have y3 := y3 (by omega)
  rw [ahc]; unfold VF
  rw [get_bind e1, get_bind e2, get_bind e3]
  have key := pY (step := fun v : Int × Int × Sq qH => I4 c.l_ v.1 v.2.1 v.2.2)
    (fun v => 0 ≤ v.1 ∧ v.1 ≤ 3 ∧ 0 ≤ v.2.1 ∧ v.2.1 ≤ 300 ∧ v.2.2.n ≤ 4 - v.1.toNat ∧ CvD v.2.2 (3 - v.1)) (fun v => v.1.toNat)
    (fun z => ∃ y, z = .inl y ∧ 0 ≤ y.1 ∧ y.1 ≤ 300 ∧ CvD y.2 3 ∧ y.2.n ≤ 4) (fun v hv => by
      obtain ⟨m, a, l⟩ := v
      obtain ⟨h1, h2, h3, h4, h5, h6⟩ := hv
      dsimp only at h1 h2 h3 h4 h5 h6 ⊢
      unfold I4
      by_cases hm : m > 0
      · have n0 := h6.n0
        obtain ⟨w1, b1, f1, m1, o1, p1, q1⟩ := aiT (hc.at h3 h4) 1 40 (by omega) (by omega) (by omega)
        obtain ⟨w2, b2, f2, m2, o2, p2, q2, _⟩ := aiO (hc.at m1 o1) 900 (by omega)
        have q2 := q2 (by omega)
        rw [qo (decide_eq_true hm), anc n0 (by omega), qo (dix (by omega)), pI, get_bind f1, get_bind f2, qo (decide_eq_true ⟨by omega, by omega⟩)]
        have hlast := h6.f (l.n - 1) (by omega)
        have z1 : wr ((l.f (l.n - 1)).Flow + w1) = (l.f (l.n - 1)).Flow + w1 := pJ (by omega) (by omega)
        have z2 : wr ((l.f (l.n - 1)).Pressure - w2) = (l.f (l.n - 1)).Pressure - w2 := pJ (by omega) (by omega)
        have z3 : wr (m - 1) = m - 1 := pJ (by omega) (by omega)
        rw [z1, z2, z3]
        refine ⟨_, rfl, ⟨by dsimp only; omega, by dsimp only; omega, m2, o2, by dsimp only; omega, by dsimp only; omega, fun i hi => ?_, fun i h0 hi => ?_⟩, by dsimp only; omega⟩
        · dsimp only at hi ⊢
          by_cases hk : i < l.n
          · rw [ajf hk]
            have := h6.f i hk
            dsimp only [cond]
            omega
          · rw [ajl (by omega)]
            dsimp only [cond]
            split <;> omega
        · dsimp only at hi ⊢
          by_cases hk : i < l.n
          · rw [ajf hk, ajf (show i - 1 < l.n by omega)]
            exact h6.m i h0 hk
          · obtain rfl : i = l.n := by omega
            rw [ajl (Nat.le_refl _), ajf (show l.n - 1 < l.n by omega)]
            dsimp only [cond]
            split <;> omega
      · rw [qm (decide_eq_false hm)]
        refine ⟨_, rfl, _, rfl, h3, h4, ?_, by dsimp only; omega⟩
        have : m = 0 := by omega
        subst this
        exact h6)
    (v3, a3, ⟨1, fun _ => ⟨v1, v2⟩⟩) ⟨x3, by dsimp only; omega, l3, u3, by dsimp only; omega, by dsimp only; omega, fun i hi => by dsimp only; omega, fun i h0 hi => by dsimp only at hi; omega⟩
  obtain ⟨z, hz, y, rfl, g1, g2, g3, g4⟩ := key
  rw [pV (by rw [afl]; exact hz)]
  exact ⟨_, _, rfl, g1, g2, g3, g4⟩
structure DrD (r : Sq Int) (q : Int) : Prop where
  n0 : 1 ≤ r.n
  f : ∀ i, i < r.n → 200 - 60 * q ≤ r.f i ∧ r.f i ≤ 900
  m : ∀ i, 0 < i → i < r.n → r.f i < r.f (i - 1)
theorem alW {c : qF} (hc : CdOK c) (road : Int) : ∃ d a, acu c road = some (d, a) ∧ 0 ≤ a ∧ a ≤ 300 ∧ d.Road = road ∧ d.Other = -1 ∧ DrD d.Rests 3 ∧ 2 ≤ d.Rests.n ∧ d.Rests.n ≤ 4 := by
  obtain ⟨v1, a1, e1, l1, u1, x1, y1⟩ := aiT hc 200 900 (by omega) (by omega) (by omega)
  obtain ⟨v2, a2, e2, l2, u2, x2, y2⟩ := aiT (hc.at l1 u1) 1 3 (by omega) (by omega) (by omega)
  rw [ahT]; unfold YN
  rw [get_bind e1, get_bind e2]
  have key := pY (step := fun v : Int × Int × Sq Int => Kn c.l_ road v.1 v.2.1 v.2.2)
    (fun v => 0 ≤ v.1 ∧ v.1 ≤ 3 ∧ 0 ≤ v.2.1 ∧ v.2.1 ≤ 300 ∧ v.2.2.n ≤ 4 - v.1.toNat ∧ (2 ≤ v.2.2.n + v.1.toNat) ∧ DrD v.2.2 (3 - v.1)) (fun v => v.1.toNat)
    (fun z => ∃ y, z = .inl y ∧ 0 ≤ y.1 ∧ y.1 ≤ 300 ∧ DrD y.2 3 ∧ 2 ≤ y.2.n ∧ y.2.n ≤ 4) (fun v hv => by
      obtain ⟨m, a, l⟩ := v
      obtain ⟨h1, h2, h3, h4, h5, h5', h6⟩ := hv
      dsimp only at h1 h2 h3 h4 h5 h5' h6 ⊢
      unfold Kn
      by_cases hm : m > 0
      · have n0 := h6.n0
        obtain ⟨w1, b1, f1, m1, o1, p1, q1⟩ := aiT (hc.at h3 h4) 1 60 (by omega) (by omega) (by omega)
        rw [qo (decide_eq_true hm), anc n0 (by omega), qo (dix (by omega)), pI, get_bind f1, qo (decide_eq_true ⟨by omega, by omega⟩)]
        have hlast := h6.f (l.n - 1) (by omega)
        have z1 : wr (l.f (l.n - 1) - w1) = l.f (l.n - 1) - w1 := pJ (by omega) (by omega)
        have z3 : wr (m - 1) = m - 1 := pJ (by omega) (by omega)
        rw [z1, z3]
        refine ⟨_, rfl, ⟨by dsimp only; omega, by dsimp only; omega, m1, o1, by dsimp only; omega, by dsimp only; omega, by dsimp only; omega, fun i hi => ?_, fun i h0 hi => ?_⟩, by dsimp only; omega⟩
        · dsimp only at hi ⊢
          by_cases hk : i < l.n
          · rw [ajf hk]
            have := h6.f i hk
            dsimp only [cond]
            omega
          · rw [ajl (by omega)]
            dsimp only [cond]
            split <;> omega
        · dsimp only at hi ⊢
          by_cases hk : i < l.n
          · rw [ajf hk, ajf (show i - 1 < l.n by omega)]
            exact h6.m i h0 hk
          · obtain rfl : i = l.n := by omega
            rw [ajl (Nat.le_refl _), ajf (show l.n - 1 < l.n by omega)]
            dsimp only [cond]
            split <;> omega
      · rw [qm (decide_eq_false hm)]
        refine ⟨_, rfl, _, rfl, h3, h4, ?_, by dsimp only; omega, by dsimp only; omega⟩
        have : m = 0 := by omega
        subst this
        exact h6)
    (v2, a2, ⟨1, fun _ => v1⟩) ⟨by dsimp only; omega, y2, l2, u2, by dsimp only; omega, by dsimp only; omega, by dsimp only; omega, fun i hi => by dsimp only; omega, fun i h0 hi => by dsimp only at hi; omega⟩
  obtain ⟨z, hz, y, rfl, g1, g2, g3, g4, g5⟩ := key
  rw [pV (by rw [af7]; exact hz)]
  exact ⟨_, _, rfl, g1, g2, rfl, rfl, g3, g4, g5⟩
structure FnD (f : SFan) (nr : Nat) : Prop where
  r0 : 0 ≤ f.Road
  r1 : f.Road < nr
  c : CvD f.Curve 3
  n : f.Curve.n ≤ 4
structure DoD (d : qD) (nr : Nat) : Prop where
  r0 : 0 ≤ d.Road
  r1 : d.Road < nr
  o : d.Other = -1
  c : DrD d.Rests 3
  n0 : 2 ≤ d.Rests.n
  n1 : d.Rests.n ≤ 4
structure FsD (F : Sq SFan) (s : Sq Int) (nr : Nat) : Prop where
  n : s.n = F.n
  f : ∀ i, i < F.n → FnD (F.f i) nr ∧ 0 ≤ s.f i ∧ s.f i ≤ 2
structure DsD (D : Sq qD) (s : Sq Int) (nr : Nat) : Prop where
  n : s.n = D.n
  f : ∀ i, i < D.n → DoD (D.f i) nr ∧ 0 ≤ s.f i ∧ s.f i < ((D.f i).Rests.n : Int)
theorem akJ {c : qF} (hc : CdOK c) (a : SAir) (hF : a.Fans.n = 0) (hD : a.Doors.n = 0) (hr : a.Mine.Roads.n ≤ 1000) :
    ∃ s b F D, DK c a = some (s, b, F, D) ∧ 0 ≤ b ∧ b ≤ 300 ∧ FsD F s.Fans a.Mine.Roads.n ∧ DsD D s.Doors a.Mine.Roads.n ∧ F.n ≤ 2 ∧ D.n ≤ 2 := by
  obtain ⟨v1, a1, e1, l1, u1, x1, y1, _⟩ := aiO hc 3 (by omega)
  have y1 := y1 (by omega)
  rw [afr]; unfold NY
  rw [get_bind e1]
  have key := pY (step := fun v : Int × Int × Sq SFan × Sq Int => FC c.l_ a.Mine.Places a.Mine.Roads a.Doors v.1 v.2.1 v.2.2.1 v.2.2.2)
    (fun v => 0 ≤ v.1 ∧ v.1 ≤ 2 ∧ 0 ≤ v.2.1 ∧ v.2.1 ≤ 300 ∧ v.2.2.1.n ≤ 2 - v.1.toNat ∧ FsD v.2.2.1 v.2.2.2 a.Mine.Roads.n) (fun v => v.1.toNat)
    (fun z => ∃ y, z = .inl y ∧ 0 ≤ y.1 ∧ y.1 ≤ 300 ∧ FsD y.2.1 y.2.2 a.Mine.Roads.n ∧ y.2.1.n ≤ 2) (fun v hv => by
      obtain ⟨m, b, F, s⟩ := v
      obtain ⟨h1, h2, h3, h4, h5, h6⟩ := hv
      dsimp only at h1 h2 h3 h4 h5 h6 ⊢
      have hsn := h6.n
      unfold FC
      by_cases hm : m > 0
      · rw [qo (decide_eq_true hm)]
        by_cases hz : ((a.Mine.Roads.n : Nat) : Int) > 0
        · rw [qo (decide_eq_true hz)]
          obtain ⟨w1, b1, f1, m1, o1, p1, q1, _⟩ := aiO (hc.at h3 h4) (a.Mine.Roads.n : Int) (by omega)
          have q1 := q1 (by omega)
          obtain ⟨w2, b2, f2, m2, o2⟩ := ai8 (hc.at m1 o1) 3 (by omega)
          obtain ⟨w3, b3, f3, m3, o3⟩ := ai8 (hc.at m2 o2) 3 (by omega)
          obtain ⟨w4, b4, f4, m4, o4, p4, q4⟩ := alA (hc.at m3 o3)
          obtain ⟨w5, b5, f5, m5, o5, p5, q5, _⟩ := aiO (hc.at m4 o4) 3 (by omega)
          have q5 := q5 (by omega)
          rw [get_bind f1, get_bind f2, get_bind f3, get_bind f4, qo (decide_eq_true ⟨by omega, by omega⟩), get_bind f5, qo (decide_eq_true ⟨by omega, by omega⟩)]
          have z3 : wr (m - 1) = m - 1 := pJ (by omega) (by omega)
          rw [z3]
          refine ⟨_, rfl, ⟨by dsimp only; omega, by dsimp only; omega, m5, o5, by dsimp only; omega, by dsimp only; omega, fun i hi => ?_⟩, by dsimp only; omega⟩
          dsimp only at hi ⊢
          by_cases hk : i < F.n
          · rw [ajf hk, ajf (show i < s.n by omega)]
            exact h6.f i hk
          · obtain rfl : i = F.n := by omega
            rw [ajl (Nat.le_refl _), ajl (show s.n ≤ F.n by omega)]
            exact ⟨⟨p1, q1, p4, q4⟩, p5, by dsimp only [cond]; omega⟩
        · rw [qm (decide_eq_false hz)]
          exact ⟨_, rfl, _, rfl, h3, h4, h6, by dsimp only; omega⟩
      · rw [qm (decide_eq_false hm)]
        exact ⟨_, rfl, _, rfl, h3, h4, h6, by dsimp only; omega⟩)
    (v1, a1, a.Fans, ⟨0, fun _ => 0⟩) ⟨x1, by dsimp only; omega, l1, u1, by dsimp only; omega, by dsimp only; omega, fun i hi => by dsimp only at hi; omega⟩
  obtain ⟨z, hz, ⟨b2, F, sF⟩, rfl, g1, g2, g3, g4⟩ := key
  rw [pV (by rw [aed]; exact hz)]
  show ∃ s b F D, DT.get (DT.bind _ _) = _ ∧ _
  obtain ⟨v3, a3, e3, l3, u3, x3, y3, _⟩ := aiO (hc.at g1 g2) 3 (by omega)
  have y3 := y3 (by omega)
  rw [get_bind e3]
  have key := pY (step := fun v : Int × Int × Sq qD × Sq Int => FD c.l_ a.Mine.Places a.Mine.Roads F sF v.1 v.2.1 v.2.2.1 v.2.2.2)
    (fun v => 0 ≤ v.1 ∧ v.1 ≤ 2 ∧ 0 ≤ v.2.1 ∧ v.2.1 ≤ 300 ∧ v.2.2.1.n ≤ 2 - v.1.toNat ∧ DsD v.2.2.1 v.2.2.2 a.Mine.Roads.n) (fun v => v.1.toNat)
    (fun z => ∃ y, z = .inl y ∧ 0 ≤ y.1 ∧ y.1 ≤ 300 ∧ DsD y.2.1 y.2.2 a.Mine.Roads.n ∧ y.2.1.n ≤ 2) (fun v hv => by
      obtain ⟨m, b, D, s⟩ := v
      obtain ⟨h1, h2, h3, h4, h5, h6⟩ := hv
      dsimp only at h1 h2 h3 h4 h5 h6 ⊢
      have hsn := h6.n
      unfold FD
      by_cases hm : m > 0
      · rw [qo (decide_eq_true hm)]
        by_cases hz : ((a.Mine.Roads.n : Nat) : Int) > 0
        · rw [qo (decide_eq_true hz)]
          obtain ⟨w1, b1, f1, m1, o1, p1, q1, _⟩ := aiO (hc.at h3 h4) (a.Mine.Roads.n : Int) (by omega)
          have q1 := q1 (by omega)
          obtain ⟨w2, b2, f2, m2, o2, p2, r2, q2, s2, t2⟩ := alW (hc.at m1 o1) w1
          obtain ⟨w3, b3, f3, m3, o3, p3, q3, _⟩ := aiO (hc.at m2 o2) (w2.Rests.n : Int) (by omega)
          have q3 := q3 (by omega)
          rw [get_bind f1, get_bind f2, qo (decide_eq_true ⟨by omega, by omega⟩), get_bind f3, qo (decide_eq_true ⟨by omega, by omega⟩)]
          have z3 : wr (m - 1) = m - 1 := pJ (by omega) (by omega)
          rw [z3]
          refine ⟨_, rfl, ⟨by dsimp only; omega, by dsimp only; omega, m3, o3, by dsimp only; omega, by dsimp only; omega, fun i hi => ?_⟩, by dsimp only; omega⟩
          dsimp only at hi ⊢
          by_cases hk : i < D.n
          · rw [ajf hk, ajf (show i < s.n by omega)]
            exact h6.f i hk
          · obtain rfl : i = D.n := by omega
            rw [ajl (Nat.le_refl _), ajl (show s.n ≤ D.n by omega)]
            exact ⟨⟨by dsimp only [cond]; omega, by dsimp only [cond]; omega, r2, q2, s2, t2⟩, p3, q3⟩
        · rw [qm (decide_eq_false hz)]
          exact ⟨_, rfl, _, rfl, h3, h4, h6, by dsimp only; omega⟩
      · rw [qm (decide_eq_false hm)]
        exact ⟨_, rfl, _, rfl, h3, h4, h6, by dsimp only; omega⟩)
    (v3, a3, a.Doors, ⟨0, fun _ => 0⟩) ⟨x3, by dsimp only; omega, l3, u3, by dsimp only; omega, by dsimp only; omega, fun i hi => by dsimp only at hi; omega⟩
  obtain ⟨z, hz, ⟨b4, D, sD⟩, rfl, k1, k2, k3, k4⟩ := key
  rw [pV (by rw [aee]; exact hz)]
  exact ⟨_, _, _, _, rfl, k1, k2, g3, k3, g4, k4⟩
structure DbD (s t : Sq Int) : Prop where
  n : t.n = s.n
  f : ∀ i, i < s.n → t.f i = s.f i ∨ t.f i = -1
theorem alh {c : qF} (hc : CdOK c) (s : qz) (hF : s.Fans.n ≤ 1000) (hD : s.Doors.n ≤ 1000) : ∃ t a, Gv c s = some (t, a) ∧ 0 ≤ a ∧ a ≤ 300 ∧ DbD s.Fans t.Fans ∧ DbD s.Doors t.Doors := by
  rw [agL]; unfold Te
  have key := pY (step := fun v : Int × Sq Int × Int => HV c.l_ s.Fans s.Doors v.1 v.2.1 v.2.2)
    (fun v => 0 ≤ v.1 ∧ v.1 ≤ 300 ∧ 0 ≤ v.2.2 ∧ v.2.2 ≤ s.Fans.n ∧ (v.2.1.n : Int) = v.2.2 ∧ ∀ i, i < v.2.1.n → v.2.1.f i = s.Fans.f i ∨ v.2.1.f i = -1) (fun v => s.Fans.n - v.2.2.toNat)
    (fun z => ∃ y, z = .inl y ∧ 0 ≤ y.1 ∧ y.1 ≤ 300 ∧ DbD s.Fans y.2) (fun v hv => by
      obtain ⟨b, t, i⟩ := v
      obtain ⟨h1, h2, h3, h4, h5, h6⟩ := hv
      dsimp only at h1 h2 h3 h4 h5 h6 ⊢
      obtain ⟨j, rfl⟩ : ∃ j : Nat, i = j := ⟨i.toNat, by omega⟩
      unfold HV
      by_cases hm : j < s.Fans.n
      · obtain ⟨w1, b1, f1, m1, o1⟩ := ai8 (hc.at h1 h2) 5 (by omega)
        rw [qo (dlt hm), qo (dix hm), get_bind f1, qc (by omega)]
        dsimp only
        cases w1 with
        | true =>
          rw [qo rfl, qo (decide_eq_true ⟨by omega, by omega⟩)]
          refine ⟨_, rfl, ⟨m1, o1, by dsimp only; omega, by dsimp only; omega, by dsimp only; omega, fun k hk => ?_⟩, by dsimp only; omega⟩
          dsimp only at hk ⊢
          by_cases hk2 : k < t.n
          · rw [ajf hk2]; exact h6 k hk2
          · rw [ajl (by omega)]; exact .inr rfl
        | false =>
          rw [qm rfl, qo (decide_eq_true ⟨by omega, by omega⟩), pI]
          refine ⟨_, rfl, ⟨m1, o1, by dsimp only; omega, by dsimp only; omega, by dsimp only; omega, fun k hk => ?_⟩, by dsimp only; omega⟩
          dsimp only at hk ⊢
          by_cases hk2 : k < t.n
          · rw [ajf hk2]; exact h6 k hk2
          · rw [ajl (by omega)]; exact .inl (by dsimp only [cond]; congr 1; omega)
      · rw [qm (dge (by omega))]
        exact ⟨_, rfl, _, rfl, h1, h2, by dsimp only; omega, fun k hk => h6 k (by omega)⟩)
    (c.at_, ⟨0, fun _ => 0⟩, 0) ⟨hc.a0, hc.a1, by dsimp only; omega, by dsimp only; omega, by dsimp only; omega, fun k hk => by dsimp only at hk; omega⟩
  obtain ⟨z, hz, ⟨b2, tF⟩, rfl, g1, g2, g3⟩ := key
  rw [pV (by rw [aeQ]; exact hz)]
  show ∃ t a, DT.get (DT.sum _ _ _) = _ ∧ _
  have key := pY (step := fun v : Int × Sq Int × Int => Gw c.l_ s.Fans s.Doors tF v.1 v.2.1 v.2.2)
    (fun v => 0 ≤ v.1 ∧ v.1 ≤ 300 ∧ 0 ≤ v.2.2 ∧ v.2.2 ≤ s.Doors.n ∧ (v.2.1.n : Int) = v.2.2 ∧ ∀ i, i < v.2.1.n → v.2.1.f i = s.Doors.f i ∨ v.2.1.f i = -1) (fun v => s.Doors.n - v.2.2.toNat)
    (fun z => ∃ y, z = .inl y ∧ 0 ≤ y.1 ∧ y.1 ≤ 300 ∧ DbD s.Doors y.2) (fun v hv => by
      obtain ⟨b, t, i⟩ := v
      obtain ⟨h1, h2, h3, h4, h5, h6⟩ := hv
      dsimp only at h1 h2 h3 h4 h5 h6 ⊢
      obtain ⟨j, rfl⟩ : ∃ j : Nat, i = j := ⟨i.toNat, by omega⟩
      unfold Gw
      by_cases hm : j < s.Doors.n
      · obtain ⟨w1, b1, f1, m1, o1⟩ := ai8 (hc.at h1 h2) 5 (by omega)
        rw [qo (dlt hm), qo (dix hm), get_bind f1, qc (by omega)]
        dsimp only
        cases w1 with
        | true =>
          rw [qo rfl, qo (decide_eq_true ⟨by omega, by omega⟩)]
          refine ⟨_, rfl, ⟨m1, o1, by dsimp only; omega, by dsimp only; omega, by dsimp only; omega, fun k hk => ?_⟩, by dsimp only; omega⟩
          dsimp only at hk ⊢
          by_cases hk2 : k < t.n
          · rw [ajf hk2]; exact h6 k hk2
          · rw [ajl (by omega)]; exact .inr rfl
        | false =>
          rw [qm rfl, qo (decide_eq_true ⟨by omega, by omega⟩), pI]
          refine ⟨_, rfl, ⟨m1, o1, by dsimp only; omega, by dsimp only; omega, by dsimp only; omega, fun k hk => ?_⟩, by dsimp only; omega⟩
          dsimp only at hk ⊢
          by_cases hk2 : k < t.n
          · rw [ajf hk2]; exact h6 k hk2
          · rw [ajl (by omega)]; exact .inl (by dsimp only [cond]; congr 1; omega)
      · rw [qm (dge (by omega))]
        exact ⟨_, rfl, _, rfl, h1, h2, by dsimp only; omega, fun k hk => h6 k (by omega)⟩)
    (b2, ⟨0, fun _ => 0⟩, 0) ⟨g1, g2, by dsimp only; omega, by dsimp only; omega, by dsimp only; omega, fun k hk => by dsimp only at hk; omega⟩
  obtain ⟨z, hz, ⟨b4, tD⟩, rfl, k1, k2, k3⟩ := key
  rw [pV (by rw [aeA]; exact hz)]
  exact ⟨_, _, rfl, k1, k2, g3, k3⟩
theorem aqk (l : Sq Int) (h : ∀ k, 0 ≤ l.f k ∧ l.f k ≤ 255) : ∃ c, New l = some c ∧ CdOK c := by
  rw [aiN]; unfold aiK
  rw [qo (decide_eq_true (by split <;> omega))]
  refine ⟨_, rfl, ?_, by dsimp only; omega, by dsimp only; omega, h⟩
  dsimp only
  split <;> omega
end Go.Proofs.YtimkpfnbkclclaaGreat.Ab
