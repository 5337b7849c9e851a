/- A part of the proof, what is needed of it. -/
import Derived.Test.YtimkpfnbkclclaaGreatPk16
import Derived.Test.YtimkpfnbkclclaaGreatPk23
import Derived.Test.YtimkpfnbkclclaaGreatPk33
namespace Go.Proofs.YtimkpfnbkclclaaGreat.Ab
open Go
theorem ark {c : qF} (hc : CdOK c) (a : SAir) (hn : a.Mine.Roads.n ≤ 1000) : ∃ l b, UN c a = some (l, b) ∧ 0 ≤ b ∧ b ≤ 300 ∧ l.n ≤ 3 ∧ ∀ j, j < l.n → 0 ≤ (l.f j).Road ∧ (l.f j).Road ≤ a.Mine.Roads.n ∧ -2 ≤ (l.f j).Need ∧ (l.f j).Need ≤ 40 := by
  obtain ⟨v0, a0, e0, s0, s1, s2, s3, _⟩ := aiO hc 4 (by omega)
  have s3 := s3 (by omega)
  obtain ⟨z, hz, b, l, rfl, g0, g1, gn, gf⟩ := pY (step := fun v : Int × Int × Sq rW => I5 c.l_ a.Mine.Places a.Mine.Roads a.Fans a.Doors v.1 v.2.1 v.2.2)
    (fun v => 0 ≤ v.1 ∧ v.1 + v.2.2.n ≤ 3 ∧ 0 ≤ v.2.1 ∧ v.2.1 ≤ 300 ∧ ∀ j, j < v.2.2.n → 0 ≤ (v.2.2.f j).Road ∧ (v.2.2.f j).Road ≤ a.Mine.Roads.n ∧ -2 ≤ (v.2.2.f j).Need ∧ (v.2.2.f j).Need ≤ 40) (fun v => v.1.toNat)
    (fun z => ∃ b l, z = .inl (b, l) ∧ 0 ≤ b ∧ b ≤ 300 ∧ l.n ≤ 3 ∧ ∀ j, j < l.n → 0 ≤ (l.f j).Road ∧ (l.f j).Road ≤ a.Mine.Roads.n ∧ -2 ≤ (l.f j).Need ∧ (l.f j).Need ≤ 40) (fun v hv => by
      obtain ⟨n, b, l⟩ := v
      obtain ⟨h1, hk, h2, h3, hf⟩ := hv
      dsimp only at h1 hk h2 h3 hf ⊢
      unfold I5
      by_cases hi : n > 0
      · obtain ⟨v1, a1, e1, p0, p1, p2, p3, _⟩ := aiO (hc.at h2 h3) ((a.Mine.Roads.n : Int) + 1) (by omega)
        obtain ⟨v2, a2, e2, q0, q1, q2, q3⟩ := aiT (hc.at p0 p1) (-2) 40 (by omega) (by omega) (by omega)
        have p3 := p3 (by omega)
        rw [qo (decide_eq_true hi), pJ (x := (a.Mine.Roads.n : Int) + 1) (by omega) (by omega), get_bind e1, get_bind e2, qo (decide_eq_true ⟨by omega, by omega⟩), pJ (x := n - 1) (by omega) (by omega)]
        refine ⟨_, rfl, ⟨by dsimp only; omega, by dsimp only; omega, q0, q1, fun j hj => ?_⟩, by dsimp only; omega⟩
        dsimp only at hj ⊢
        by_cases c : j < l.n
        · rw [ajf c]; exact hf j c
        · rw [ajl (by omega)]
          dsimp only [cond]
          omega
      · rw [qm (decide_eq_false hi)]
        exact ⟨_, rfl, _, _, rfl, h2, h3, by omega, hf⟩)
    (v0, a0, ⟨0, fun _ => ⟨0, 0⟩⟩) ⟨s2, by dsimp only; omega, s0, s1, fun j hj => absurd hj (Nat.not_lt_zero _)⟩
  rw [ahd]; unfold VH
  rw [get_bind e0, pV (by rw [afm]; exact hz)]
  exact ⟨l, b, rfl, g0, g1, gn, gf⟩
structure SnD (n : Nat) (s : qG) : Prop where
  k : 1 ≤ s.Kind ∧ s.Kind ≤ 6
  t : 0 ≤ s.Target ∧ s.Target < n
  ok : SnOK s
  l : 1 ≤ s.Life ∧ s.Life ≤ 200
  d : 0 ≤ s.Drift ∧ s.Drift < 700
theorem aqD {c : qF} (hc : CdOK c) {n : Nat} {ad tg : Int} (a0 : 0 ≤ ad) (a1 : ad ≤ 255) (t0 : 0 ≤ tg) (t1 : tg < n) : ∃ s b, YR c 3 ad tg = some (s, b) ∧ 0 ≤ b ∧ b ≤ 300 ∧ SnD n s ∧ s.Kind = 3 := by
  obtain ⟨v1, b1, e1, p0, p1, p2, p3⟩ := aiT hc 1 200 (by omega) (by omega) (by omega)
  obtain ⟨v2, b2, e2, q0, q1, q2, q3⟩ := aiT (hc.at p0 p1) (-50) 20 (by omega) (by omega) (by omega)
  obtain ⟨v3, b3, e3, r0, r1, r2, r3⟩ := aiT (hc.at q0 q1) 300 2000 (by omega) (by omega) (by omega)
  obtain ⟨v4, b4, e4, s0, s1, s2, s3, _⟩ := aiO (hc.at r0 r1) 6 (by omega)
  obtain ⟨v5, b5, e5, u0, u1, u2, u3, _⟩ := aiO (hc.at s0 s1) 700 (by omega)
  have s3 := s3 (by omega)
  have u3 := u3 (by omega)
  have e : Nv 3 = some false := by rw [agy]; rfl
  rw [agK]; unfold Ta
  rw [get_bind e1, get_bind e, qo (b := !false) rfl, get_bind e2, get_bind e3, get_bind e4, get_bind e5]
  refine ⟨_, _, rfl, u0, u1, ⟨?_, ?_, ?_, ?_, ?_⟩, rfl⟩
  · dsimp only; omega
  · dsimp only; omega
  · unfold SnOK; dsimp only; omega
  · dsimp only; omega
  · dsimp only; omega
structure MsD (q : Sq Int) (l : Sq qG) (right : Bool) (x : qE) : Prop where
  s : -2 ≤ x.Sensor ∧ x.Sensor ≤ 6
  t : 0 ≤ x.Time ∧ x.Time < 30
  lo : -1049000 ≤ x.Span.Low ∧ x.Span.Low ≤ 1049000
  hi : -1049000 ≤ x.Span.High ∧ x.Span.High ≤ 1049000
  r : right = true → 0 ≤ x.Sensor ∧ x.Sensor < l.n ∧ x.Span.Low ≤ q.f (l.f x.Sensor.toNat).Target.toNat ∧ q.f (l.f x.Sensor.toNat).Target.toNat ≤ x.Span.High
theorem aq1 {n k : Nat} {M : Nat → qE} {s t lo hi : Int} : (qE.mk (cond (Nat.blt k n) (M k).Sensor s) (cond (Nat.blt k n) (M k).Time t) (qB.mk (cond (Nat.blt k n) (M k).Span.Low lo) (cond (Nat.blt k n) (M k).Span.High hi))) = cond (Nat.blt k n) (M k) ⟨s, t, ⟨lo, hi⟩⟩ := by
  cases Nat.blt k n <;> rfl
theorem ari {n k : Nat} {M : Nat → qG} {y : qG} {kd : Int} : (qG.mk (cond (Nat.blt k n) (M k).Address y.Address) (cond (Nat.blt k n) (M k).Kind kd) (cond (Nat.blt k n) (M k).Target y.Target) (cond (Nat.blt k n) (M k).Offset y.Offset) (cond (Nat.blt k n) (M k).Scale y.Scale) (cond (Nat.blt k n) (M k).Error y.Error) (cond (Nat.blt k n) (M k).Drift y.Drift) (cond (Nat.blt k n) (M k).Life y.Life)) = cond (Nat.blt k n) (M k) ⟨y.Address, kd, y.Target, y.Offset, y.Scale, y.Error, y.Drift, y.Life⟩ := by
  cases Nat.blt k n <;> rfl
theorem aqr {A : Type} {P : A → Prop} {n : Nat} {M : Nat → A} {y : A} (h : ∀ j, j < n → P (M j)) (hy : P y) {j : Nat} : P (cond (Nat.blt j n) (M j) y) := by
  by_cases c : j < n
  · rw [ajf c]; exact h j c
  · rw [ajl (by omega)]; exact hy
theorem SnD.kind {n : Nat} {s : qG} (h : SnD n s) {k : Int} (k0 : 1 ≤ k) (k1 : k ≤ 6) : SnD n ⟨s.Address, k, s.Target, s.Offset, s.Scale, s.Error, s.Drift, s.Life⟩ :=
  ⟨⟨k0, k1⟩, h.t, ⟨⟨k0, k1⟩, h.ok.2⟩, h.l, h.d⟩
def SnQ (n : Nat) (right : Bool) (s : qG) : Prop := SnD n s ∧ (right = true → s.Kind = 3)
theorem aqU {c : qF} (hc : CdOK c) {q : Sq Int} (h0 : 0 < q.n) (hn : q.n ≤ 1000) (right : Bool) {v a : Int} (v0 : 0 ≤ v) (v3 : v ≤ 3) (a0 : 0 ≤ a) (a1 : a ≤ 300) : ∃ b l, Ot q right c.l_ v a ⟨0, fun _ => ⟨0, 0, 0, 0, 0, 0, 0, 0⟩⟩ = some (.inl (b, l)) ∧ 0 ≤ b ∧ b ≤ 300 ∧ l.n ≤ 3 ∧ ∀ j, j < l.n → SnQ q.n right (l.f j) := by
  obtain ⟨z, hz, b, l, rfl, g0, g1, gn, gf⟩ := pY (step := fun v : Int × Int × Sq qG => GX q right c.l_ v.1 v.2.1 v.2.2)
    (fun v => 0 ≤ v.1 ∧ v.1 + v.2.2.n ≤ 3 ∧ 0 ≤ v.2.1 ∧ v.2.1 ≤ 300 ∧ ∀ j, j < v.2.2.n → SnQ q.n right (v.2.2.f j)) (fun v => v.1.toNat)
    (fun z => ∃ b l, z = .inl (b, l) ∧ 0 ≤ b ∧ b ≤ 300 ∧ l.n ≤ 3 ∧ ∀ j, j < l.n → SnQ q.n right (l.f j)) (fun v hv => by
      obtain ⟨n, b, l⟩ := v
      obtain ⟨h1, hk, h2, h3, hf⟩ := hv
      dsimp only at h1 hk h2 h3 hf ⊢
      unfold GX
      by_cases hi : n > 0
      · obtain ⟨v1, a1, e1, p0, p1, p2, p3, _⟩ := aiO (hc.at h2 h3) (q.n : Int) (by omega)
        have p3 := p3 (by omega)
        obtain ⟨y, a2, e2, q0, q1, sd, sk⟩ := aqD (hc.at p0 p1) (n := q.n) (ad := (l.n : Int)) (tg := v1) (by omega) (by omega) p2 p3
        rw [qo (decide_eq_true hi), get_bind e1, get_bind e2]
        cases right with
        | true =>
          rw [qm (b := !true) rfl, qo (decide_eq_true ⟨by omega, by omega⟩), pJ (x := n - 1) (by omega) (by omega)]
          refine ⟨_, rfl, ⟨by dsimp only; omega, by dsimp only; omega, q0, q1, fun j hj => ?_⟩, by dsimp only; omega⟩
          dsimp only
          rw [ari]
          exact aqr (P := SnQ q.n true) hf ⟨sd, fun _ => sk⟩
        | false =>
          obtain ⟨w, a3, e3, r0, r1⟩ := ai8 (hc.at q0 q1) 5 (by omega)
          rw [qo (b := !false) rfl, get_bind e3]
          cases w with
          | true =>
            obtain ⟨u, a4, e4, s0, s1, s2, s3⟩ := aiT (hc.at r0 r1) 1 6 (by omega) (by omega) (by omega)
            rw [qo rfl, get_bind e4, qo (decide_eq_true ⟨by omega, by omega⟩), pJ (x := n - 1) (by omega) (by omega)]
            refine ⟨_, rfl, ⟨by dsimp only; omega, by dsimp only; omega, s0, s1, fun j hj => ?_⟩, by dsimp only; omega⟩
            dsimp only
            rw [ari]
            exact aqr (P := SnQ q.n false) hf ⟨sd.kind s2 s3, fun e => by cases e⟩
          | false =>
            rw [qm rfl, qo (decide_eq_true ⟨by omega, by omega⟩), pJ (x := n - 1) (by omega) (by omega)]
            refine ⟨_, rfl, ⟨by dsimp only; omega, by dsimp only; omega, r0, r1, fun j hj => ?_⟩, by dsimp only; omega⟩
            dsimp only
            rw [ari]
            exact aqr (P := SnQ q.n false) hf ⟨sd, fun e => by cases e⟩
      · rw [qm (decide_eq_false hi)]
        exact ⟨_, rfl, _, _, rfl, h2, h3, by omega, hf⟩)
    (v, a, ⟨0, fun _ => ⟨0, 0, 0, 0, 0, 0, 0, 0⟩⟩) ⟨v0, by dsimp only; omega, a0, a1, fun j hj => absurd hj (Nat.not_lt_zero _)⟩
  exact ⟨b, l, by rw [aeJ]; exact hz, g0, g1, gn, gf⟩
theorem aqO {c : qF} (hc : CdOK c) {q : Sq Int} (hq : ∀ j, j < q.n → -1048576 ≤ q.f j ∧ q.f j ≤ 1048576) (right : Bool) {l : Sq qG} (ln : l.n ≤ 3) (hl : ∀ j, j < l.n → SnD q.n (l.f j)) {v a : Int} (v0 : 0 ≤ v) (v3 : v ≤ 4) (a0 : 0 ≤ a) (a1 : a ≤ 300) : ∃ b m, Ms q right c.l_ l v a ⟨0, fun _ => ⟨0, 0, ⟨0, 0⟩⟩⟩ = some (.inl (b, m)) ∧ 0 ≤ b ∧ b ≤ 300 ∧ m.n ≤ 4 ∧ ∀ j, j < m.n → MsD q l right (m.f j) := by
  obtain ⟨z, hz, b, m, rfl, g0, g1, gn, gf⟩ := pY (step := fun v : Int × Int × Sq qE => FU q right c.l_ l v.1 v.2.1 v.2.2)
    (fun v => 0 ≤ v.1 ∧ v.1 + v.2.2.n ≤ 4 ∧ 0 ≤ v.2.1 ∧ v.2.1 ≤ 300 ∧ ∀ j, j < v.2.2.n → MsD q l right (v.2.2.f j)) (fun v => v.1.toNat)
    (fun z => ∃ b m, z = .inl (b, m) ∧ 0 ≤ b ∧ b ≤ 300 ∧ m.n ≤ 4 ∧ ∀ j, j < m.n → MsD q l right (m.f j)) (fun v hv => by
      obtain ⟨n, b, m⟩ := v
      obtain ⟨h1, hk, h2, h3, hf⟩ := hv
      dsimp only at h1 hk h2 h3 hf ⊢
      unfold FU
      by_cases hi : n > 0
      · rw [qo (decide_eq_true hi)]
        by_cases hl0 : ((l.n : Nat) : Int) > 0
        · obtain ⟨v1, a1, e1, p0, p1, p2, p3, _⟩ := aiO (hc.at h2 h3) (l.n : Int) (by omega)
          have p3 := p3 (by omega)
          have sd := hl v1.toNat (by omega)
          have st := sd.t
          have bq := hq (l.f v1.toNat).Target.toNat (by omega)
          obtain ⟨v2, a2, e2, q0, q1, q2, q3, _⟩ := aiO (hc.at p0 p1) 30 (by omega)
          obtain ⟨v3, a3, e3, r0, r1, r2, r3, _⟩ := aiO (hc.at q0 q1) 9 (by omega)
          obtain ⟨v4, a4, e4, s0, s1, s2, s3, _⟩ := aiO (hc.at r0 r1) 9 (by omega)
          have q3 := q3 (by omega)
          have r3 := r3 (by omega)
          have s3 := s3 (by omega)
          have w1 : wr (q.f (l.f v1.toNat).Target.toNat - v3) = q.f (l.f v1.toNat).Target.toNat - v3 := pJ (by omega) (by omega)
          have w2 : wr (q.f (l.f v1.toNat).Target.toNat + v4) = q.f (l.f v1.toNat).Target.toNat + v4 := pJ (by omega) (by omega)
          have nw : wr (n - 1) = n - 1 := pJ (by omega) (by omega)
          have room : decide ((m.n + 1) * 32 ≤ 140737488355328 ∧ (m.n + 1) ≤ 1099511627776) = true := decide_eq_true ⟨by omega, by omega⟩
          rw [qo (decide_eq_true hl0), get_bind e1, qo (decide_eq_true ⟨p2, p3⟩), qo (decide_eq_true ⟨st.1, st.2⟩), get_bind e2, get_bind e3, get_bind e4]
          dsimp only
          rw [w1, w2]
          cases right with
          | true =>
            rw [qm (b := !true) rfl, qm (b := !true) rfl, qo room, nw]
            refine ⟨_, rfl, ⟨by dsimp only; omega, by dsimp only; omega, s0, s1, fun j hj => ?_⟩, by dsimp only; omega⟩
            dsimp only
            rw [aq1]
            exact aqr (P := MsD q l true) hf ⟨by dsimp only; omega, by dsimp only; omega, by dsimp only; omega, by dsimp only; omega, fun _ => by dsimp only; omega⟩
          | false =>
            obtain ⟨w8, a8, e8, t0, t1⟩ := ai8 (hc.at s0 s1) 3 (by omega)
            rw [qo (b := !false) rfl, get_bind e8]
            cases w8 with
            | true =>
              obtain ⟨v9, a9, e9, u0, u1, u2, u3⟩ := aiT (hc.at t0 t1) 5 40 (by omega) (by omega) (by omega)
              obtain ⟨v10, a10, e10, x0, x1, x2, x3⟩ := aiT (hc.at u0 u1) 30 60 (by omega) (by omega) (by omega)
              obtain ⟨w11, a11, e11, y0, y1⟩ := ai8 (hc.at x0 x1) 9 (by omega)
              have w3 : wr (q.f (l.f v1.toNat).Target.toNat - v3 + v9) = q.f (l.f v1.toNat).Target.toNat - v3 + v9 := pJ (by omega) (by omega)
              have w4 : wr (q.f (l.f v1.toNat).Target.toNat + v4 + v10) = q.f (l.f v1.toNat).Target.toNat + v4 + v10 := pJ (by omega) (by omega)
              rw [qo rfl, get_bind e9, get_bind e10, qo (b := !false) rfl, get_bind e11]
              dsimp only
              rw [w3, w4]
              cases w11 with
              | true =>
                obtain ⟨v12, a12, e12, c0, c1, c2, c3⟩ := aiT (hc.at y0 y1) (-2) 6 (by omega) (by omega) (by omega)
                rw [qo rfl, get_bind e12, qo room, nw]
                refine ⟨_, rfl, ⟨by dsimp only; omega, by dsimp only; omega, c0, c1, fun j hj => ?_⟩, by dsimp only; omega⟩
                dsimp only
                rw [aq1]
                exact aqr (P := MsD q l false) hf ⟨by dsimp only; omega, by dsimp only; omega, by dsimp only; omega, by dsimp only; omega, fun e => by cases e⟩
              | false =>
                rw [qm rfl, qo room, nw]
                refine ⟨_, rfl, ⟨by dsimp only; omega, by dsimp only; omega, y0, y1, fun j hj => ?_⟩, by dsimp only; omega⟩
                dsimp only
                rw [aq1]
                exact aqr (P := MsD q l false) hf ⟨by dsimp only; omega, by dsimp only; omega, by dsimp only; omega, by dsimp only; omega, fun e => by cases e⟩
            | false =>
              obtain ⟨w13, a13, e13, y0, y1⟩ := ai8 (hc.at t0 t1) 9 (by omega)
              rw [qm rfl, qo (b := !false) rfl, get_bind e13]
              dsimp only
              cases w13 with
              | true =>
                obtain ⟨v12, a12, e12, c0, c1, c2, c3⟩ := aiT (hc.at y0 y1) (-2) 6 (by omega) (by omega) (by omega)
                rw [qo rfl, get_bind e12, qo room, nw]
                refine ⟨_, rfl, ⟨by dsimp only; omega, by dsimp only; omega, c0, c1, fun j hj => ?_⟩, by dsimp only; omega⟩
                dsimp only
                rw [aq1]
                exact aqr (P := MsD q l false) hf ⟨by dsimp only; omega, by dsimp only; omega, by dsimp only; omega, by dsimp only; omega, fun e => by cases e⟩
              | false =>
                rw [qm rfl, qo room, nw]
                refine ⟨_, rfl, ⟨by dsimp only; omega, by dsimp only; omega, y0, y1, fun j hj => ?_⟩, by dsimp only; omega⟩
                dsimp only
                rw [aq1]
                exact aqr (P := MsD q l false) hf ⟨by dsimp only; omega, by dsimp only; omega, by dsimp only; omega, by dsimp only; omega, fun e => by cases e⟩
        · rw [qm (decide_eq_false hl0)]
          exact ⟨_, rfl, _, _, rfl, h2, h3, by omega, hf⟩
      · rw [qm (decide_eq_false hi)]
        exact ⟨_, rfl, _, _, rfl, h2, h3, by omega, hf⟩)
    (v, a, ⟨0, fun _ => ⟨0, 0, ⟨0, 0⟩⟩⟩) ⟨v0, by dsimp only; omega, a0, a1, fun j hj => absurd hj (Nat.not_lt_zero _)⟩
  exact ⟨b, m, by rw [aeo]; exact hz, g0, g1, gn, gf⟩
structure FwD (q : Sq Int) (right : Bool) (l : Sq qG) (m : Sq qE) : Prop where
  ln : l.n ≤ 3
  mn : m.n ≤ 4
  s : ∀ j, j < l.n → SnQ q.n right (l.f j)
  m : ∀ j, j < m.n → MsD q l right (m.f j)
theorem arG {c : qF} (hc : CdOK c) {q : Sq Int} (hn : q.n ≤ 1000) (hq : ∀ j, j < q.n → -1048576 ≤ q.f j ∧ q.f j ≤ 1048576) (right : Bool) : ∃ l m b, IW c q right = some (l, m, b) ∧ 0 ≤ b ∧ b ≤ 300 ∧ FwD q right l m := by
  have b0 := hc.a0
  have b1 := hc.a1
  rw [agl]; unfold Qm
  by_cases h0 : q.n = 0
  · rw [qo (by rw [h0]; rfl)]
    exact ⟨_, _, _, rfl, b0, b1, by show 0 ≤ 3; omega, by show 0 ≤ 4; omega, fun j hj => absurd hj (Nat.not_lt_zero _), fun j hj => absurd hj (Nat.not_lt_zero _)⟩
  · obtain ⟨v0, a0, e0, s0, s1, s2, s3, _⟩ := aiO hc 4 (by omega)
    have s3 := s3 (by omega)
    obtain ⟨b, l, e1, p0, p1, pn, pf⟩ := aqU hc (by omega) hn right s2 (by omega) s0 s1
    obtain ⟨v1, a1, e2, u0, u1, u2, u3, _⟩ := aiO (hc.at p0 p1) 5 (by omega)
    have u3 := u3 (by omega)
    obtain ⟨b', m, e3, q0, q1, qn, qf⟩ := aqO hc hq right pn (fun j hj => (pf j hj).1) u2 (by omega) u0 u1
    rw [qm (by simp; omega), get_bind e0, pV e1]
    dsimp only [Sum.elim]
    rw [get_bind e2, pV e3]
    exact ⟨l, m, b', rfl, q0, q1, pn, qn, pf, qf⟩
end Go.Proofs.YtimkpfnbkclclaaGreat.Ab
namespace Go.Proofs.YtimkpfnbkclclaaGreat.Ab
open Go
theorem aoH {r : Sq Int} (ok : akl r) {s0 s : Int} (h0 : 0 ≤ s0) (h1 : s0 < r.n) (h : s = s0 ∨ s = -1) : (rsS r s).Low ≤ (rsS r s0).Low ∧ (rsS r s0).Low ≤ (rsS r s).High := by
  have e : rsS r s0 = ⟨r.f s0.toNat, r.f s0.toNat⟩ := if_pos h0
  rcases h with rfl | rfl
  · rw [e]; exact ⟨Int.le_refl _, Int.le_refl _⟩
  · have e1 : rsS r (-1) = ⟨r.f (r.n - 1), r.f 0⟩ := if_neg (by omega)
    have n0 := ok.n0
    have a := ok.dec (r.n - 1 - s0.toNat) s0.toNat (by omega)
    have b := ok.dec s0.toNat 0 (by omega)
    rw [show s0.toNat + (r.n - 1 - s0.toNat) = r.n - 1 by omega] at a
    rw [Nat.zero_add] at b
    rw [e, e1]
    exact ⟨a, b⟩
theorem aoL {f : SFan} (ok : okC f.Curve) {s0 s : Int} (h0 : 0 ≤ s0) (h1 : s0 ≤ 2) (h : s = s0 ∨ s = -1) (x : Int) : (stS f s x).Low ≤ (stS f s0 x).Low ∧ (stS f s0 x).Low ≤ (stS f s x).High := by
  have a := akK ok f.Back x
  have b := akK ok (!f.Back) x
  rcases h with rfl | rfl
  · refine ⟨Int.le_refl _, ?_⟩
    unfold stS
    split
    · exact Int.le_refl _
    · rw [show (if s = 1 then ai3 f.Curve f.Back x else if s = 2 then ai3 f.Curve (!f.Back) x else _) = if s = 1 then ai3 f.Curve f.Back x else ai3 f.Curve (!f.Back) x from by
        split
        · rfl
        · rw [if_pos (by omega)]]
      split <;> omega
  · have e : stS f (-1) x = ⟨minI (minI 0 (ai3 f.Curve f.Back x).Low) (ai3 f.Curve (!f.Back) x).Low, maxI (maxI 0 (ai3 f.Curve f.Back x).High) (ai3 f.Curve (!f.Back) x).High⟩ := by
      unfold stS
      rw [if_neg (by omega), if_neg (by omega), if_neg (by omega)]
    rw [e]
    have l : (stS f s0 x).Low = 0 ∨ (stS f s0 x).Low = (ai3 f.Curve f.Back x).Low ∨ (stS f s0 x).Low = (ai3 f.Curve (!f.Back) x).Low := by
      unfold stS
      by_cases c0 : s0 = 0
      · rw [if_pos c0]; exact .inl rfl
      · rw [if_neg c0]
        by_cases c1 : s0 = 1
        · rw [if_pos c1]; exact .inr (.inl rfl)
        · rw [if_neg c1, if_pos (by omega)]; exact .inr (.inr rfl)
    dsimp only
    unfold minI maxI
    constructor
    all_goals (repeat' split)
    all_goals omega
theorem anJ {D : Sq qD} {s0 s : Sq Int} {nr : Nat} (h : DsD D s0 nr) (hd : DbD s0 s) (road : Int) {b : Int × Int} {c : Int} (h1 : b.1 ≤ c) (h2 : c ≤ b.2) : ∀ k, k ≤ D.n → (rsum D s road b k).1 ≤ (rsum D s0 road (c, 0) k).1 ∧ (rsum D s0 road (c, 0) k).1 ≤ (rsum D s road b k).2 := by
  have hn := h.n
  intro k
  induction k with
  | zero => intro _; exact ⟨h1, h2⟩
  | succ k ih =>
    intro hk
    have i := ih (by omega)
    obtain ⟨d1, d2, d3⟩ := h.f k (by omega)
    have q := aoH (d1.c.ok d1.n0 d1.n1) d2 d3 (hd.f k (by omega))
    unfold rsum
    split
    · dsimp only; omega
    · exact i
theorem anx {F : Sq SFan} {s0 s : Sq Int} {nr : Nat} (h : FsD F s0 nr) (hd : DbD s0 s) (road x : Int) (b b' : Int × Int) : ∀ k, k ≤ F.n → (fsum F s road x b k).1 - b.1 ≤ (fsum F s0 road x b' k).2 - b'.2 ∧ (fsum F s0 road x b' k).2 - b'.2 ≤ (fsum F s road x b k).2 - b.2 := by
  have hn := h.n
  intro k
  induction k with
  | zero => intro _; show b.1 - b.1 ≤ b'.2 - b'.2 ∧ b'.2 - b'.2 ≤ b.2 - b.2; omega
  | succ k ih =>
    intro hk
    have i := ih (by omega)
    obtain ⟨d1, d2, d3⟩ := h.f k (by omega)
    have q := aoL (d1.c.ok d1.n) d2 d3 (hd.f k (by omega)) x
    unfold fsum
    split
    · dsimp only; omega
    · exact i
theorem apV {lo hi B x : Int} (h1 : lo ≤ B) (h2 : B ≤ hi) : (sqS lo hi x).1 ≤ sgn B x ∧ sgn B x ≤ (sqS lo hi x).2 := by
  have hx : 0 ≤ x * x := by
    rcases Int.le_total 0 x with h | h
    · exact Int.mul_nonneg h h
    · exact Int.mul_nonneg_of_nonpos_of_nonpos h h
  have a := Int.mul_le_mul_of_nonneg_right h1 hx
  have b := Int.mul_le_mul_of_nonneg_right h2 hx
  unfold sqS sgn
  split
  · dsimp only; omega
  · dsimp only; omega
theorem MdD.fits {a : SAir} {s : qz} {x : yV} (h : MdD a s x) {j : Nat} (hj : j < a.Mine.Roads.n) :
    (aiS a s j (x.Flows.f j)).1 ≤ x.Pressures.f (a.Mine.Roads.f j).From.toNat - x.Pressures.f (a.Mine.Roads.f j).To.toNat ∧ x.Pressures.f (a.Mine.Roads.f j).From.toNat - x.Pressures.f (a.Mine.Roads.f j).To.toNat ≤ (aiS a s j (x.Flows.f j)).2 := by
  obtain ⟨sh, s0, _, _, _, _, _, hE, dF, dD, hL⟩ := h.e
  obtain ⟨re, u, v, r0, r1, u0, _, v0, _, e⟩ := (hL j hj).e
  have m1 := anJ hE.d dD j (b := ((a.Mine.Roads.f j).Rest.Low, (a.Mine.Roads.f j).Rest.High)) (c := re) r0 r1 a.Doors.n (Nat.le_refl _)
  have m2 := apV (x := x.Flows.f j) m1.1 m1.2
  unfold aiS
  dsimp only
  rw [e]
  dsimp only
  generalize rsum a.Doors s.Doors j ((a.Mine.Roads.f j).Rest.Low, (a.Mine.Roads.f j).Rest.High) a.Doors.n = b at m2 ⊢
  generalize sgn (rsum a.Doors s0.Doors j (re, 0) a.Doors.n).1 (x.Flows.f j) = g at m2 ⊢
  generalize x.Pressures.f (a.Mine.Roads.f j).From.toNat - x.Pressures.f (a.Mine.Roads.f j).To.toNat = d
  have m3 := anx hE.f dF j (x.Flows.f j) ((sqS b.1 b.2 (x.Flows.f j)).1 - ((fsum a.Fans s0.Fans j (x.Flows.f j) (0, g - d) a.Fans.n).2 + v), (sqS b.1 b.2 (x.Flows.f j)).2 - ((fsum a.Fans s0.Fans j (x.Flows.f j) (0, g - d) a.Fans.n).2 - u)) (0, g - d) a.Fans.n (Nat.le_refl _)
  dsimp only at m3
  omega
end Go.Proofs.YtimkpfnbkclclaaGreat.Ab
namespace Go.Proofs.YtimkpfnbkclclaaGreat.Ab
noncomputable section
open Go
def gW (l : Sq Int) (m : Int) (i : Nat) : Option Unit := if -m ≤ l.f i ∧ l.f i ≤ m then none else some ()
def aqb (P : Sq qA) (p : Sq Int) (i : Nat) : Prop := (P.f i).Surface = true → p.f i = 0
def sumP (P : Sq qA) (R : Sq qC) (q : Sq Int) (i : Nat) : Prop := (P.f i).Surface = false → net R q i R.n = 0
def aqf (a : SAir) (s : qz) (x : yV) (j : Nat) : Prop := ((a.Mine.Roads.f j).Closed = true → x.Flows.f j = 0) ∧ ((a.Mine.Roads.f j).Closed = false →
  (aiS a s j (x.Flows.f j)).1 ≤ x.Pressures.f (a.Mine.Roads.f j).From.toNat - x.Pressures.f (a.Mine.Roads.f j).To.toNat ∧ x.Pressures.f (a.Mine.Roads.f j).From.toNat - x.Pressures.f (a.Mine.Roads.f j).To.toNat ≤ (aiS a s j (x.Flows.f j)).2)
open Classical in
def apj (a : SAir) (s : qz) (x : yV) : Int :=
  if airE a ≠ 0 then airE a else if aiR a s = false then 21 else if x.Pressures.n ≠ a.Mine.Places.n then 11 else if x.Flows.n ≠ a.Mine.Roads.n then 11
  else if bn (gW x.Pressures 70368744177664) x.Pressures.n 0 ≠ none then 1 else if bn (gW x.Flows 1048576) x.Flows.n 0 ≠ none then 1
  else if (∀ i, i < a.Mine.Places.n → aqb a.Mine.Places x.Pressures i) ∧ (∀ j, j < a.Mine.Roads.n → aqf a s x j) ∧ ∀ i, i < a.Mine.Places.n → sumP a.Mine.Places a.Mine.Roads x.Flows i then 0 else 10
theorem apl {l : Sq Int} {m : Int} (h : bn (gW l m) l.n 0 = none) : ∀ i, i < l.n → -m ≤ l.f i ∧ l.f i ≤ m := by
  intro i hi
  have := oh h i (Nat.zero_le _) (by omega)
  unfold gW at this
  split at this
  · assumption
  · cases this
theorem MdD.zero {a : SAir} {s : qz} {x : yV} (h : MdD a s x) : apj a s x = 0 := by
  obtain ⟨sh, s0, _, _, hP, hp, hq, hE, _⟩ := h.e
  have hqn := hq.qn
  have hpn := hp.nn
  unfold apj
  rw [if_neg (not_not_intro (hE.air h.mine)), if_neg (by rw [h.right]; simp), if_neg (not_not_intro hpn), if_neg (not_not_intro hqn), oL fun i _ hi => ?_, if_neg (not_not_intro rfl), oL fun i _ hi => ?_, if_neg (not_not_intro rfl), if_pos]
  · refine ⟨fun i hi c => ?_, fun j hj => ⟨fun c => ?_, fun _ => h.fits hj⟩, fun i hi c => ?_⟩
    · rw [(hP.f i hi).1] at c
      exact hp.z i (Nat.le_of_ble_eq_true c)
    · exact (hq.r j hj).z c
    · rw [(hP.f i hi).1] at c
      refine hq.e i ?_ hi
      by_cases d : i < sh
      · rw [ajf d] at c; cases c
      · omega
  · unfold gW
    have := (hq.r i (by omega)).q0
    have := (hq.r i (by omega)).q1
    rw [if_pos (by omega)]
  · unfold gW
    have := hp.f i (by omega)
    rw [if_pos (by omega)]
theorem MdD.fit {a : SAir} {s : qz} {x : yV} (h : MdD a s x) : aot a s x.Pressures x.Flows := by
  have z := h.zero
  unfold apj at z
  split at z
  · rename_i c; exact absurd z c
  · split at z
    · cases z
    · split at z
      · cases z
      · split at z
        · cases z
        · rename_i h4
          split at z
          · cases z
          · split at z
            · cases z
            · rename_i h6
              have qb := apl (Classical.not_not.1 h6)
              split at z
              · rename_i q
                exact ⟨fun i hi e => q.1 i hi e, fun j hj e => (q.2.1 j hj).2 e, fun j hj e => (q.2.1 j hj).1 e, fun j hj => qb j (by omega), fun i hi e => q.2.2 i hi e⟩
              · cases z
end
end Go.Proofs.YtimkpfnbkclclaaGreat.Ab
