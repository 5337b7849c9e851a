/- A part of the proof, what is needed of it. -/
import Derived.Test.YtimkpfnbkclclaaGreatPl23
import Derived.Test.YtimkpfnbkclclaaGreatPl32
import Derived.Test.YtimkpfnbkclclaaGreatPl33
import Derived.Test.YtimkpfnbkclclaaGreatPl34
namespace Go.Proofs.YtimkpfnbkclclaaGreat.Ab
open Go
theorem arl {c : qF} (hc : CdOK c) {q : Sq Int} (hn : q.n ≤ 1000) (hq : ∀ j, j < q.n → -1048576 ≤ q.f j ∧ q.f j ≤ 1048576) : ∃ l b, M8 c q = some (l, b) ∧ 0 ≤ b ∧ b ≤ 300 ∧ l.n = q.n ∧ ∀ j, j < q.n → q.f j - 12 ≤ (l.f j).Low ∧ (l.f j).Low ≤ q.f j ∧ q.f j ≤ (l.f j).High ∧ (l.f j).High ≤ q.f j + 12 := by
  have b0 := hc.a0
  have b1 := hc.a1
  obtain ⟨z, hz, b, l, rfl, g0, g1, gn, gf⟩ := pY (step := fun v : Int × Sq qB × Int => I9 q c.l_ v.1 v.2.1 v.2.2)
    (fun v => ∃ k : Nat, v.2.2 = k ∧ k ≤ q.n ∧ 0 ≤ v.1 ∧ v.1 ≤ 300 ∧ v.2.1.n = k ∧ ∀ j, j < k → q.f j - 12 ≤ (v.2.1.f j).Low ∧ (v.2.1.f j).Low ≤ q.f j ∧ q.f j ≤ (v.2.1.f j).High ∧ (v.2.1.f j).High ≤ q.f j + 12) (fun v => q.n - v.2.2.toNat)
    (fun z => ∃ b l, z = .inl (b, l) ∧ 0 ≤ b ∧ b ≤ 300 ∧ l.n = q.n ∧ ∀ j, j < q.n → q.f j - 12 ≤ (l.f j).Low ∧ (l.f j).Low ≤ q.f j ∧ q.f j ≤ (l.f j).High ∧ (l.f j).High ≤ q.f j + 12) (fun v hv => by
      obtain ⟨b, l, x⟩ := v
      obtain ⟨k, h1, hk, h2, h3, hl, hf⟩ := hv
      dsimp only at h1 h2 h3 hl hf ⊢
      subst h1
      unfold I9
      rcases Nat.lt_or_ge k q.n with hi | hi
      · have bq := hq k hi
        obtain ⟨v1, a1, e1, p0, p1, p2, p3, _⟩ := aiO (hc.at h2 h3) 12 (by omega)
        obtain ⟨v2, a2, e2, q0, q1, q2, q3, _⟩ := aiO (hc.at p0 p1) 12 (by omega)
        have p3 := p3 (by omega)
        have q3 := q3 (by omega)
        rw [qo (dlt hi), qo (dix hi), get_bind e1, qo (dix hi), get_bind e2, qo (decide_eq_true ⟨by omega, by omega⟩), pI]
        refine ⟨_, rfl, ⟨k + 1, qc (by omega), hi, q0, q1, by dsimp only; omega, fun j hj => ?_⟩, by dsimp only; rw [qc (by omega)]; omega⟩
        dsimp only
        by_cases c : j < l.n
        · rw [ajf c]; exact hf j (by omega)
        · obtain rfl : j = k := by omega
          rw [ajl (by omega), pJ (x := q.f j - v1) (by omega) (by omega), pJ (x := q.f j + v2) (by omega) (by omega)]
          dsimp only [cond]
          omega
      · obtain rfl : k = q.n := by omega
        rw [qm (dge (by omega))]
        exact ⟨_, rfl, _, _, rfl, h2, h3, hl, hf⟩)
    (c.at_, ⟨0, fun _ => ⟨0, 0⟩⟩, 0) ⟨0, rfl, Nat.zero_le _, b0, b1, rfl, fun j hj => absurd hj (Nat.not_lt_zero _)⟩
  rw [ahf]; unfold VL
  rw [pV (by rw [afq]; exact hz)]
  exact ⟨l, b, rfl, g0, g1, gn, gf⟩
structure SnD (n : Nat) (s : qG) : Prop where
  k : 1 ≤ s.Kind ∧ s.Kind ≤ 6
  t : 0 ≤ s.Target ∧ s.Target < n
  ok : SnOK s
  l : 1 ≤ s.Life ∧ s.Life ≤ 200
  d : 0 ≤ s.Drift ∧ s.Drift < 700
theorem aqD {c : qF} (hc : CdOK c) {n : Nat} {ad tg : Int} (a0 : 0 ≤ ad) (a1 : ad ≤ 255) (t0 : 0 ≤ tg) (t1 : tg < n) : ∃ s b, YR c 3 ad tg = some (s, b) ∧ 0 ≤ b ∧ b ≤ 300 ∧ SnD n s ∧ s.Kind = 3 := by
  obtain ⟨v1, b1, e1, p0, p1, p2, p3⟩ := aiT hc 1 200 (by omega) (by omega) (by omega)
  obtain ⟨v2, b2, e2, q0, q1, q2, q3⟩ := aiT (hc.at p0 p1) (-50) 20 (by omega) (by omega) (by omega)
  obtain ⟨v3, b3, e3, r0, r1, r2, r3⟩ := aiT (hc.at q0 q1) 300 2000 (by omega) (by omega) (by omega)
  obtain ⟨v4, b4, e4, s0, s1, s2, s3, _⟩ := aiO (hc.at r0 r1) 6 (by omega)
  obtain ⟨v5, b5, e5, u0, u1, u2, u3, _⟩ := aiO (hc.at s0 s1) 700 (by omega)
  have s3 := s3 (by omega)
  have u3 := u3 (by omega)
  have e : Nv 3 = some false := by rw [agy]; rfl
  rw [agK]; unfold Ta
  rw [get_bind e1, get_bind e, qo (b := !false) rfl, get_bind e2, get_bind e3, get_bind e4, get_bind e5]
  refine ⟨_, _, rfl, u0, u1, ⟨?_, ?_, ?_, ?_, ?_⟩, rfl⟩
  · dsimp only; omega
  · dsimp only; omega
  · unfold SnOK; dsimp only; omega
  · dsimp only; omega
  · dsimp only; omega
structure MsD (q : Sq Int) (l : Sq qG) (right : Bool) (x : qE) : Prop where
  s : -2 ≤ x.Sensor ∧ x.Sensor ≤ 6
  t : 0 ≤ x.Time ∧ x.Time < 30
  lo : -1049000 ≤ x.Span.Low ∧ x.Span.Low ≤ 1049000
  hi : -1049000 ≤ x.Span.High ∧ x.Span.High ≤ 1049000
  r : right = true → 0 ≤ x.Sensor ∧ x.Sensor < l.n ∧ x.Span.Low ≤ q.f (l.f x.Sensor.toNat).Target.toNat ∧ q.f (l.f x.Sensor.toNat).Target.toNat ≤ x.Span.High
theorem aq1 {n k : Nat} {M : Nat → qE} {s t lo hi : Int} : (qE.mk (cond (Nat.blt k n) (M k).Sensor s) (cond (Nat.blt k n) (M k).Time t) (qB.mk (cond (Nat.blt k n) (M k).Span.Low lo) (cond (Nat.blt k n) (M k).Span.High hi))) = cond (Nat.blt k n) (M k) ⟨s, t, ⟨lo, hi⟩⟩ := by
  cases Nat.blt k n <;> rfl
theorem ari {n k : Nat} {M : Nat → qG} {y : qG} {kd : Int} : (qG.mk (cond (Nat.blt k n) (M k).Address y.Address) (cond (Nat.blt k n) (M k).Kind kd) (cond (Nat.blt k n) (M k).Target y.Target) (cond (Nat.blt k n) (M k).Offset y.Offset) (cond (Nat.blt k n) (M k).Scale y.Scale) (cond (Nat.blt k n) (M k).Error y.Error) (cond (Nat.blt k n) (M k).Drift y.Drift) (cond (Nat.blt k n) (M k).Life y.Life)) = cond (Nat.blt k n) (M k) ⟨y.Address, kd, y.Target, y.Offset, y.Scale, y.Error, y.Drift, y.Life⟩ := by
  cases Nat.blt k n <;> rfl
theorem aqr {A : Type} {P : A → Prop} {n : Nat} {M : Nat → A} {y : A} (h : ∀ j, j < n → P (M j)) (hy : P y) {j : Nat} : P (cond (Nat.blt j n) (M j) y) := by
  by_cases c : j < n
  · rw [ajf c]; exact h j c
  · rw [ajl (by omega)]; exact hy
theorem SnD.kind {n : Nat} {s : qG} (h : SnD n s) {k : Int} (k0 : 1 ≤ k) (k1 : k ≤ 6) : SnD n ⟨s.Address, k, s.Target, s.Offset, s.Scale, s.Error, s.Drift, s.Life⟩ :=
  ⟨⟨k0, k1⟩, h.t, ⟨⟨k0, k1⟩, h.ok.2⟩, h.l, h.d⟩
def SnQ (n : Nat) (right : Bool) (s : qG) : Prop := SnD n s ∧ (right = true → s.Kind = 3)
theorem aqU {c : qF} (hc : CdOK c) {q : Sq Int} (h0 : 0 < q.n) (hn : q.n ≤ 1000) (right : Bool) {v a : Int} (v0 : 0 ≤ v) (v3 : v ≤ 3) (a0 : 0 ≤ a) (a1 : a ≤ 300) : ∃ b l, Ot q right c.l_ v a ⟨0, fun _ => ⟨0, 0, 0, 0, 0, 0, 0, 0⟩⟩ = some (.inl (b, l)) ∧ 0 ≤ b ∧ b ≤ 300 ∧ l.n ≤ 3 ∧ ∀ j, j < l.n → SnQ q.n right (l.f j) := by
  obtain ⟨z, hz, b, l, rfl, g0, g1, gn, gf⟩ := pY (step := fun v : Int × Int × Sq qG => GX q right c.l_ v.1 v.2.1 v.2.2)
    (fun v => 0 ≤ v.1 ∧ v.1 + v.2.2.n ≤ 3 ∧ 0 ≤ v.2.1 ∧ v.2.1 ≤ 300 ∧ ∀ j, j < v.2.2.n → SnQ q.n right (v.2.2.f j)) (fun v => v.1.toNat)
    (fun z => ∃ b l, z = .inl (b, l) ∧ 0 ≤ b ∧ b ≤ 300 ∧ l.n ≤ 3 ∧ ∀ j, j < l.n → SnQ q.n right (l.f j)) (fun v hv => by
      obtain ⟨n, b, l⟩ := v
      obtain ⟨h1, hk, h2, h3, hf⟩ := hv
      dsimp only at h1 hk h2 h3 hf ⊢
      unfold GX
      by_cases hi : n > 0
      · obtain ⟨v1, a1, e1, p0, p1, p2, p3, _⟩ := aiO (hc.at h2 h3) (q.n : Int) (by omega)
        have p3 := p3 (by omega)
        obtain ⟨y, a2, e2, q0, q1, sd, sk⟩ := aqD (hc.at p0 p1) (n := q.n) (ad := (l.n : Int)) (tg := v1) (by omega) (by omega) p2 p3
        rw [qo (decide_eq_true hi), get_bind e1, get_bind e2]
        cases right with
        | true =>
          rw [qm (b := !true) rfl, qo (decide_eq_true ⟨by omega, by omega⟩), pJ (x := n - 1) (by omega) (by omega)]
          refine ⟨_, rfl, ⟨by dsimp only; omega, by dsimp only; omega, q0, q1, fun j hj => ?_⟩, by dsimp only; omega⟩
          dsimp only
          rw [ari]
          exact aqr (P := SnQ q.n true) hf ⟨sd, fun _ => sk⟩
        | false =>
          obtain ⟨w, a3, e3, r0, r1⟩ := ai8 (hc.at q0 q1) 5 (by omega)
          rw [qo (b := !false) rfl, get_bind e3]
          cases w with
          | true =>
            obtain ⟨u, a4, e4, s0, s1, s2, s3⟩ := aiT (hc.at r0 r1) 1 6 (by omega) (by omega) (by omega)
            rw [qo rfl, get_bind e4, qo (decide_eq_true ⟨by omega, by omega⟩), pJ (x := n - 1) (by omega) (by omega)]
            refine ⟨_, rfl, ⟨by dsimp only; omega, by dsimp only; omega, s0, s1, fun j hj => ?_⟩, by dsimp only; omega⟩
            dsimp only
            rw [ari]
            exact aqr (P := SnQ q.n false) hf ⟨sd.kind s2 s3, fun e => by cases e⟩
          | false =>
            rw [qm rfl, qo (decide_eq_true ⟨by omega, by omega⟩), pJ (x := n - 1) (by omega) (by omega)]
            refine ⟨_, rfl, ⟨by dsimp only; omega, by dsimp only; omega, r0, r1, fun j hj => ?_⟩, by dsimp only; omega⟩
            dsimp only
            rw [ari]
            exact aqr (P := SnQ q.n false) hf ⟨sd, fun e => by cases e⟩
      · rw [qm (decide_eq_false hi)]
        exact ⟨_, rfl, _, _, rfl, h2, h3, by omega, hf⟩)
    (v, a, ⟨0, fun _ => ⟨0, 0, 0, 0, 0, 0, 0, 0⟩⟩) ⟨v0, by dsimp only; omega, a0, a1, fun j hj => absurd hj (Nat.not_lt_zero _)⟩
  exact ⟨b, l, by rw [aeJ]; exact hz, g0, g1, gn, gf⟩
theorem aqO {c : qF} (hc : CdOK c) {q : Sq Int} (hq : ∀ j, j < q.n → -1048576 ≤ q.f j ∧ q.f j ≤ 1048576) (right : Bool) {l : Sq qG} (ln : l.n ≤ 3) (hl : ∀ j, j < l.n → SnD q.n (l.f j)) {v a : Int} (v0 : 0 ≤ v) (v3 : v ≤ 4) (a0 : 0 ≤ a) (a1 : a ≤ 300) : ∃ b m, Ms q right c.l_ l v a ⟨0, fun _ => ⟨0, 0, ⟨0, 0⟩⟩⟩ = some (.inl (b, m)) ∧ 0 ≤ b ∧ b ≤ 300 ∧ m.n ≤ 4 ∧ ∀ j, j < m.n → MsD q l right (m.f j) := by
  obtain ⟨z, hz, b, m, rfl, g0, g1, gn, gf⟩ := pY (step := fun v : Int × Int × Sq qE => FU q right c.l_ l v.1 v.2.1 v.2.2)
    (fun v => 0 ≤ v.1 ∧ v.1 + v.2.2.n ≤ 4 ∧ 0 ≤ v.2.1 ∧ v.2.1 ≤ 300 ∧ ∀ j, j < v.2.2.n → MsD q l right (v.2.2.f j)) (fun v => v.1.toNat)
    (fun z => ∃ b m, z = .inl (b, m) ∧ 0 ≤ b ∧ b ≤ 300 ∧ m.n ≤ 4 ∧ ∀ j, j < m.n → MsD q l right (m.f j)) (fun v hv => by
      obtain ⟨n, b, m⟩ := v
      obtain ⟨h1, hk, h2, h3, hf⟩ := hv
      dsimp only at h1 hk h2 h3 hf ⊢
      unfold FU
      by_cases hi : n > 0
      · rw [qo (decide_eq_true hi)]
        by_cases hl0 : ((l.n : Nat) : Int) > 0
        · obtain ⟨v1, a1, e1, p0, p1, p2, p3, _⟩ := aiO (hc.at h2 h3) (l.n : Int) (by omega)
          have p3 := p3 (by omega)
          have sd := hl v1.toNat (by omega)
          have st := sd.t
          have bq := hq (l.f v1.toNat).Target.toNat (by omega)
          obtain ⟨v2, a2, e2, q0, q1, q2, q3, _⟩ := aiO (hc.at p0 p1) 30 (by omega)
          obtain ⟨v3, a3, e3, r0, r1, r2, r3, _⟩ := aiO (hc.at q0 q1) 9 (by omega)
          obtain ⟨v4, a4, e4, s0, s1, s2, s3, _⟩ := aiO (hc.at r0 r1) 9 (by omega)
          have q3 := q3 (by omega)
          have r3 := r3 (by omega)
          have s3 := s3 (by omega)
          have w1 : wr (q.f (l.f v1.toNat).Target.toNat - v3) = q.f (l.f v1.toNat).Target.toNat - v3 := pJ (by omega) (by omega)
          have w2 : wr (q.f (l.f v1.toNat).Target.toNat + v4) = q.f (l.f v1.toNat).Target.toNat + v4 := pJ (by omega) (by omega)
          have nw : wr (n - 1) = n - 1 := pJ (by omega) (by omega)
          have room : decide ((m.n + 1) * 32 ≤ 140737488355328 ∧ (m.n + 1) ≤ 1099511627776) = true := decide_eq_true ⟨by omega, by omega⟩
          rw [qo (decide_eq_true hl0), get_bind e1, qo (decide_eq_true ⟨p2, p3⟩), qo (decide_eq_true ⟨st.1, st.2⟩), get_bind e2, get_bind e3, get_bind e4]
          dsimp only
          rw [w1, w2]
          cases right with
          | true =>
            rw [qm (b := !true) rfl, qm (b := !true) rfl, qo room, nw]
            refine ⟨_, rfl, ⟨by dsimp only; omega, by dsimp only; omega, s0, s1, fun j hj => ?_⟩, by dsimp only; omega⟩
            dsimp only
            rw [aq1]
            exact aqr (P := MsD q l true) hf ⟨by dsimp only; omega, by dsimp only; omega, by dsimp only; omega, by dsimp only; omega, fun _ => by dsimp only; omega⟩
          | false =>
            obtain ⟨w8, a8, e8, t0, t1⟩ := ai8 (hc.at s0 s1) 3 (by omega)
            rw [qo (b := !false) rfl, get_bind e8]
            cases w8 with
            | true =>
              obtain ⟨v9, a9, e9, u0, u1, u2, u3⟩ := aiT (hc.at t0 t1) 5 40 (by omega) (by omega) (by omega)
              obtain ⟨v10, a10, e10, x0, x1, x2, x3⟩ := aiT (hc.at u0 u1) 30 60 (by omega) (by omega) (by omega)
              obtain ⟨w11, a11, e11, y0, y1⟩ := ai8 (hc.at x0 x1) 9 (by omega)
              have w3 : wr (q.f (l.f v1.toNat).Target.toNat - v3 + v9) = q.f (l.f v1.toNat).Target.toNat - v3 + v9 := pJ (by omega) (by omega)
              have w4 : wr (q.f (l.f v1.toNat).Target.toNat + v4 + v10) = q.f (l.f v1.toNat).Target.toNat + v4 + v10 := pJ (by omega) (by omega)
              rw [qo rfl, get_bind e9, get_bind e10, qo (b := !false) rfl, get_bind e11]
              dsimp only
              rw [w3, w4]
              cases w11 with
              | true =>
                obtain ⟨v12, a12, e12, c0, c1, c2, c3⟩ := aiT (hc.at y0 y1) (-2) 6 (by omega) (by omega) (by omega)
                rw [qo rfl, get_bind e12, qo room, nw]
                refine ⟨_, rfl, ⟨by dsimp only; omega, by dsimp only; omega, c0, c1, fun j hj => ?_⟩, by dsimp only; omega⟩
                dsimp only
                rw [aq1]
                exact aqr (P := MsD q l false) hf ⟨by dsimp only; omega, by dsimp only; omega, by dsimp only; omega, by dsimp only; omega, fun e => by cases e⟩
              | false =>
                rw [qm rfl, qo room, nw]
                refine ⟨_, rfl, ⟨by dsimp only; omega, by dsimp only; omega, y0, y1, fun j hj => ?_⟩, by dsimp only; omega⟩
                dsimp only
                rw [aq1]
                exact aqr (P := MsD q l false) hf ⟨by dsimp only; omega, by dsimp only; omega, by dsimp only; omega, by dsimp only; omega, fun e => by cases e⟩
            | false =>
              obtain ⟨w13, a13, e13, y0, y1⟩ := ai8 (hc.at t0 t1) 9 (by omega)
              rw [qm rfl, qo (b := !false) rfl, get_bind e13]
              dsimp only
              cases w13 with
              | true =>
                obtain ⟨v12, a12, e12, c0, c1, c2, c3⟩ := aiT (hc.at y0 y1) (-2) 6 (by omega) (by omega) (by omega)
                rw [qo rfl, get_bind e12, qo room, nw]
                refine ⟨_, rfl, ⟨by dsimp only; omega, by dsimp only; omega, c0, c1, fun j hj => ?_⟩, by dsimp only; omega⟩
                dsimp only
                rw [aq1]
                exact aqr (P := MsD q l false) hf ⟨by dsimp only; omega, by dsimp only; omega, by dsimp only; omega, by dsimp only; omega, fun e => by cases e⟩
              | false =>
                rw [qm rfl, qo room, nw]
                refine ⟨_, rfl, ⟨by dsimp only; omega, by dsimp only; omega, y0, y1, fun j hj => ?_⟩, by dsimp only; omega⟩
                dsimp only
                rw [aq1]
                exact aqr (P := MsD q l false) hf ⟨by dsimp only; omega, by dsimp only; omega, by dsimp only; omega, by dsimp only; omega, fun e => by cases e⟩
        · rw [qm (decide_eq_false hl0)]
          exact ⟨_, rfl, _, _, rfl, h2, h3, by omega, hf⟩
      · rw [qm (decide_eq_false hi)]
        exact ⟨_, rfl, _, _, rfl, h2, h3, by omega, hf⟩)
    (v, a, ⟨0, fun _ => ⟨0, 0, ⟨0, 0⟩⟩⟩) ⟨v0, by dsimp only; omega, a0, a1, fun j hj => absurd hj (Nat.not_lt_zero _)⟩
  exact ⟨b, m, by rw [aeo]; exact hz, g0, g1, gn, gf⟩
structure FwD (q : Sq Int) (right : Bool) (l : Sq qG) (m : Sq qE) : Prop where
  ln : l.n ≤ 3
  mn : m.n ≤ 4
  s : ∀ j, j < l.n → SnQ q.n right (l.f j)
  m : ∀ j, j < m.n → MsD q l right (m.f j)
theorem arG {c : qF} (hc : CdOK c) {q : Sq Int} (hn : q.n ≤ 1000) (hq : ∀ j, j < q.n → -1048576 ≤ q.f j ∧ q.f j ≤ 1048576) (right : Bool) : ∃ l m b, IW c q right = some (l, m, b) ∧ 0 ≤ b ∧ b ≤ 300 ∧ FwD q right l m := by
  have b0 := hc.a0
  have b1 := hc.a1
  rw [agl]; unfold Qm
  by_cases h0 : q.n = 0
  · rw [qo (by rw [h0]; rfl)]
    exact ⟨_, _, _, rfl, b0, b1, by show 0 ≤ 3; omega, by show 0 ≤ 4; omega, fun j hj => absurd hj (Nat.not_lt_zero _), fun j hj => absurd hj (Nat.not_lt_zero _)⟩
  · obtain ⟨v0, a0, e0, s0, s1, s2, s3, _⟩ := aiO hc 4 (by omega)
    have s3 := s3 (by omega)
    obtain ⟨b, l, e1, p0, p1, pn, pf⟩ := aqU hc (by omega) hn right s2 (by omega) s0 s1
    obtain ⟨v1, a1, e2, u0, u1, u2, u3, _⟩ := aiO (hc.at p0 p1) 5 (by omega)
    have u3 := u3 (by omega)
    obtain ⟨b', m, e3, q0, q1, qn, qf⟩ := aqO hc hq right pn (fun j hj => (pf j hj).1) u2 (by omega) u0 u1
    rw [qm (by simp; omega), get_bind e0, pV e1]
    dsimp only [Sum.elim]
    rw [get_bind e2, pV e3]
    exact ⟨l, m, b', rfl, q0, q1, pn, qn, pf, qf⟩
end Go.Proofs.YtimkpfnbkclclaaGreat.Ab
namespace Go.Proofs.YtimkpfnbkclclaaGreat.Ab
noncomputable section
open Go
attribute [local irreducible] arun
def Ih (u3_0 : Sq qG) (u3_1 u3_2 : Int) (u3_3 : Sq qE) (u3_5 : Sq qB) (u3_6 : Int) : DT (LR ((Sq qB) × Int) ((Sq qB)) (Unit)) :=
 .ite (decide (u3_6 < ((u3_3.n : Nat) : Int))) (
 .ite (decide ((0 : Int) ≤ u3_6 ∧ u3_6 < ((u3_3.n : Nat) : Int))) (
 .ite (decide ((u3_3.f (Int.toNat u3_6)).Sensor ≥ (0 : Int))) (
 .ite (decide ((u3_3.f (Int.toNat u3_6)).Sensor < ((u3_0.n : Nat) : Int))) (
 .ite (decide ((0 : Int) ≤ (u3_3.f (Int.toNat u3_6)).Sensor ∧ (u3_3.f (Int.toNat u3_6)).Sensor < ((u3_0.n : Nat) : Int))) (
 .ite ((u3_0.f (Int.toNat (u3_3.f (Int.toNat u3_6)).Sensor)).Kind == (3 : Int)) (
 .ite (decide ((0 : Int) ≤ (u3_3.f (Int.toNat u3_6)).Sensor ∧ (u3_3.f (Int.toNat u3_6)).Sensor < ((u3_0.n : Nat) : Int))) (
 .ite ((u3_0.f (Int.toNat (u3_3.f (Int.toNat u3_6)).Sensor)).Target == u3_1) (
 .ite (decide ((0 : Int) ≤ (u3_3.f (Int.toNat u3_6)).Sensor ∧ (u3_3.f (Int.toNat u3_6)).Sensor < ((u3_0.n : Nat) : Int))) (
 .bind (adg (u3_0.f (Int.toNat (u3_3.f (Int.toNat u3_6)).Sensor)) (u3_3.f (Int.toNat u3_6)) u3_2) fun z0 =>
 .ite (decide ((u3_5.n + 1) * 16 ≤ 140737488355328 ∧ (u3_5.n + 1) ≤ 1099511627776)) (
 .leaf (.next ((Sq.mk (u3_5.n + 1) (fun k0 => (qB.mk (cond (Nat.blt k0 u3_5.n) (u3_5.f k0).Low z0.Low) (cond (Nat.blt k0 u3_5.n) (u3_5.f k0).High z0.High)))), (wr (u3_6 + (1 : Int)))))) (
 .fail)) (
 .fail)) (
 .leaf (.next (u3_5, (wr (u3_6 + (1 : Int))))))) (
 .fail)) (
 .leaf (.next (u3_5, (wr (u3_6 + (1 : Int))))))) (
 .fail)) (
 .leaf (.next (u3_5, (wr (u3_6 + (1 : Int))))))) (
 .leaf (.next (u3_5, (wr (u3_6 + (1 : Int))))))) (
 .fail)) (
 .leaf (.l u3_5))
def zm : LpM := ⟨(Sq qG) × Int × Int × (Sq qE), (Sq qB) × Int, (Sq qB), Unit, fun p => ⟨[(0, sqA 8 qG.enc p.1.1), (3, .int .i64 p.1.2.1), (4, .int .i64 p.1.2.2.1), (11, .own 320 0), (21, sqA 4 qE.enc p.1.2.2.2), (22, .int .i64 ((p.1.2.2.2.n : Nat) : Int)), (23, .int .i64 p.2.2)], [(320, rowA 0 2 51 qB.enc p.2.1)], 640⟩, fun f v => Ih f.1 f.2.1 f.2.2.1 f.2.2.2 v.1 v.2, true, (.exit 0), (fun _ a => ⟨[(11, .own 320 0)], [(320, rowA 0 2 51 qB.enc a)], 640⟩), .ret, (fun _ _ => ⟨[], [], 0⟩), c1, c1k⟩
def Qn (u3_0 : Sq qG) (u3_1 u3_2 : Int) (u3_3 : Sq qE) (u3_5 : Sq qB) (u3_6 : Int) : Option (((Sq qB)) ⊕ (Unit)) := zm.val ((u3_0, u3_1, u3_2, u3_3), (u3_5, u3_6))
theorem ae2 (u3_0 : Sq qG) (u3_1 u3_2 : Int) (u3_3 : Sq qE) (u3_5 : Sq qB) (u3_6 : Int) : Qn u3_0 u3_1 u3_2 u3_3 u3_5 u3_6 = fixO (fun v : (Sq qB) × Int => Ih u3_0 u3_1 u3_2 u3_3 v.1 v.2) (u3_5, u3_6) := zm.val_eq (fun x => ((sqD qG.dec (aget x.tm 0), intA (aget x.tm 3), intA (aget x.tm 4), sqD qE.dec (aget x.tm 21)), (sqB qB.dec (blkS x 320), intA (aget x.tm 23)))) (fun p => by kernel_rfl) ((u3_0, u3_1, u3_2, u3_3), (u3_5, u3_6))
def TF (s : Sq qG) (m : Sq qE) (flows : Sq qB) (road time : Int) : DT (Bool) :=
 .ite (decide ((0 : Int) ≤ road ∧ road < ((flows.n : Nat) : Int))) (
 .sum (Qn s road time m (Sq.mk 1 (fun _ => (flows.f (Int.toNat road)))) (0 : Int)) (fun y0 =>
 .bind (Yt y0) fun z1 =>
 .leaf z1.2) (fun _ => .fail)) (
 .fail)
def vB : FnM := flM ((Sq qG) × (Sq qE) × (Sq qB) × Int × Int) (Bool) (fun p => ([sqA 8 qG.enc p.1, sqA 4 qE.enc p.2.1, sqA 2 qB.enc p.2.2.1, .int .i64 p.2.2.2.1, .int .i64 p.2.2.2.2], [])) (fun p => TF p.1 p.2.1 p.2.2.1 p.2.2.2.1 p.2.2.2.2) (fun r => .bool r) (fun _ => rfl)
def Ou : Env := envM [(57, EF.c), (56, zR.c)] [(3, [0, 3, 4, 11, 21, 22, 23], [11])] [(3, zm.c)] [] [(3, [320])] 0
def ab0 : Env := { Ou with nt := 74 }
theorem Qo : aQ ab0 (qd 3 Tryz.f30) zm.c := zm.tells 640 (fun _ => by kernel_rfl) (fun _ _ _ _ => by kernel_rfl) (fun _ _ _ _ => by kernel_rfl) fun R f v N K => by kernel_rfl
theorem WC : aI Tryz.prog 30 vB.c := vB.tells Tryz.func30 (show ∀ p, arun Ou Tryz.f30 (vB.enc p).1 (vB.enc p).2 = _ from fun p => by kernel_rfl) (qg [qd 3 Tryz.f30] (by kernel_rfl) ⟨lpT (by kernel_rfl) Qo, trivial⟩) (.cons TY (.cons OB .nil))
def Y3 (s : Sq qG) (m : Sq qE) (flows : Sq qB) (road time : Int) : Option (Bool) := vB.val (s, m, flows, road, time)
theorem agY (s : Sq qG) (m : Sq qE) (flows : Sq qB) (road time : Int) : Y3 s m flows road time = (TF s m flows road time).get := vB.val_eq (fun x => (sqD qG.dec (gd x.1 0), sqD qE.dec (gd x.1 1), sqD qB.dec (gd x.1 2), intA (gd x.1 3), intA (gd x.1 4))) (fun p => by kernel_rfl) (s, m, flows, road, time)
def Dr (_u7_0 : Int) (_u7_3 : Sq qB) (_u7_4 : Sq qG) (u7_5 u7_1 : Sq qE) (u7_6 : Int) : DT (LR ((Sq qE) × Int) ((Sq qE)) (Unit)) :=
 .ite (decide (u7_6 < ((u7_5.n : Nat) : Int))) (
 .ite (decide ((0 : Int) ≤ u7_6 ∧ u7_6 < ((u7_5.n : Nat) : Int))) (
 .ite (decide ((1 + u7_1.n) * 32 ≤ 140737488355328 ∧ (1 + u7_1.n) ≤ 1099511627776)) (
 .leaf (.next ((Sq.mk (1 + u7_1.n) (fun k0 => (qE.mk (cond (Nat.blt k0 1) (u7_5.f (Int.toNat u7_6)).Sensor (u7_1.f (k0 - 1)).Sensor) (cond (Nat.blt k0 1) (u7_5.f (Int.toNat u7_6)).Time (u7_1.f (k0 - 1)).Time) (qB.mk (cond (Nat.blt k0 1) (u7_5.f (Int.toNat u7_6)).Span.Low (u7_1.f (k0 - 1)).Span.Low) (cond (Nat.blt k0 1) (u7_5.f (Int.toNat u7_6)).Span.High (u7_1.f (k0 - 1)).Span.High))))), (wr (u7_6 + (1 : Int)))))) (
 .fail)) (
 .fail)) (
 .leaf (.l u7_1))
def uL : LpM := ⟨Int × (Sq qB) × (Sq qG) × (Sq qE), (Sq qE) × Int, (Sq qE), Unit, fun p => ⟨[(1, .int .u8 p.1.1), (9, .own 1216 0), (10, .own 1536 0), (11, .own 1537 0), (12, sqA 4 qE.enc p.2.1), (41, .int .i64 ((p.1.2.2.2.n : Nat) : Int)), (42, .int .i64 p.2.2)], [(1216, rowA 0 2 51 qB.enc p.1.2.1), (1536, rowA 0 8 75 qG.enc p.1.2.2.1), (1537, rowA 0 4 63 qE.enc p.1.2.2.2), (1920, .dead 0)], 2176⟩, fun f v => Dr f.1 f.2.1 f.2.2.1 f.2.2.2 v.1 v.2, true, (.exit 0), (fun x a => ⟨[(1, aget x.tm 1), (9, .own 1216 0), (10, .own 1536 0), (11, .own 1537 0), (12, sqA 4 qE.enc a)], [(1216, blkS x 1216), (1536, blkS x 1536), (1537, blkS x 1537), (1920, .dead 0)], 2176⟩), .ret, (fun _ _ => ⟨[], [], 0⟩), c1, c1k⟩
def GK (u7_0 : Int) (u7_3 : Sq qB) (u7_4 : Sq qG) (u7_5 u7_1 : Sq qE) (u7_6 : Int) : Option (((Sq qE)) ⊕ (Unit)) := uL.val ((u7_0, u7_3, u7_4, u7_5), (u7_1, u7_6))
theorem acD (u7_0 : Int) (u7_3 : Sq qB) (u7_4 : Sq qG) (u7_5 u7_1 : Sq qE) (u7_6 : Int) : GK u7_0 u7_3 u7_4 u7_5 u7_1 u7_6 = fixO (fun v : (Sq qE) × Int => Dr u7_0 u7_3 u7_4 u7_5 v.1 v.2) (u7_1, u7_6) := uL.val_eq (fun x => ((intA (aget x.tm 1), sqB qB.dec (blkS x 1216), sqB qG.dec (blkS x 1536), sqB qE.dec (blkS x 1537)), (sqD qE.dec (aget x.tm 12), intA (aget x.tm 42)))) (fun p => by kernel_rfl) ((u7_0, u7_3, u7_4, u7_5), (u7_1, u7_6))
def Co (u16_0 : Int) (u16_1 : Sq qB) (u16_2 : Sq qG) (u16_3 : Sq qE) (u16_5 : Sq qB) (u16_6 : Sq Int) (_u16_7 : Sq qB) (u16_8 : Int) : DT (LR (Int) (Unit) (Unit)) :=
 .ite (decide (u16_8 < ((u16_6.n : Nat) : Int))) (
 .ite (decide ((0 : Int) ≤ u16_8 ∧ u16_8 < ((u16_6.n : Nat) : Int))) (
 .ite (decide ((u16_6.f (Int.toNat u16_8)) < (0 : Int))) (
 .leaf (.r ())) (
 .ite (decide ((u16_6.f (Int.toNat u16_8)) ≥ ((u16_2.n : Nat) : Int))) (
 .leaf (.r ())) (
 .ite (decide ((0 : Int) ≤ (u16_6.f (Int.toNat u16_8)) ∧ (u16_6.f (Int.toNat u16_8)) < ((u16_2.n : Nat) : Int))) (
 .ite (decide ((0 : Int) ≤ (u16_2.f (Int.toNat (u16_6.f (Int.toNat u16_8)))).Target ∧ (u16_2.f (Int.toNat (u16_6.f (Int.toNat u16_8)))).Target < ((u16_5.n : Nat) : Int))) (
 .ite ((u16_5.f (Int.toNat (u16_2.f (Int.toNat (u16_6.f (Int.toNat u16_8)))).Target)).Low != (-1125899906842624 : Int)) (
 .leaf (.r ())) (
 .ite ((u16_5.f (Int.toNat (u16_2.f (Int.toNat (u16_6.f (Int.toNat u16_8)))).Target)).High != (1125899906842624 : Int)) (
 .leaf (.r ())) (
 .ite (decide ((0 : Int) ≤ (u16_6.f (Int.toNat u16_8)) ∧ (u16_6.f (Int.toNat u16_8)) < ((u16_2.n : Nat) : Int))) (
 .bind (Y3 u16_2 u16_3 u16_1 (u16_2.f (Int.toNat (u16_6.f (Int.toNat u16_8)))).Target (wr u16_0)) fun z0 =>
 .ite z0 (
 .leaf (.r ())) (
 .leaf (.next (wr (u16_8 + (1 : Int)))))) (
 .fail)))) (
 .fail)) (
 .fail)))) (
 .fail)) (
 .leaf (.l ()))
def uy : LpM := ⟨Int × (Sq qB) × (Sq qG) × (Sq qE) × (Sq qB) × (Sq Int) × (Sq qB), Int, Unit, Unit, fun p => ⟨[(1, .int .u8 p.1.1), (9, sqA 2 qB.enc p.1.2.1), (10, sqA 8 qG.enc p.1.2.2.1), (11, sqA 4 qE.enc p.1.2.2.2.1), (14, .own 2496 0), (15, .own 2497 0), (16, .own 3200 0), (92, .own 2497 0), (93, .int .i64 ((p.1.2.2.2.2.2.1.n : Nat) : Int)), (94, .int .i64 p.2)], [(2496, rowA 0 2 51 qB.enc p.1.2.2.2.2.1), (2497, rowA 0 1 3 (eI .i64) p.1.2.2.2.2.2.1), (3200, rowA 0 2 51 qB.enc p.1.2.2.2.2.2.2)], 5184⟩, fun f v => Co f.1 f.2.1 f.2.2.1 f.2.2.2.1 f.2.2.2.2.1 f.2.2.2.2.2.1 f.2.2.2.2.2.2 v, false, (.exit 2), (fun x _ => ⟨[(4, .undef), (14, .own 2496 0), (15, .own 2497 0), (16, .own 3200 0)], [(2496, blkS x 2496), (2497, blkS x 2497), (3200, blkS x 3200)], 5184⟩), .ret, (fun x _ => ⟨[(4, .bool false), (14, .own 2496 0), (15, .own 2497 0), (16, .own 3200 0)], [(2496, blkS x 2496), (2497, blkS x 2497), (3200, blkS x 3200)], 5184⟩), c1, c1k⟩
def FR (u16_0 : Int) (u16_1 : Sq qB) (u16_2 : Sq qG) (u16_3 : Sq qE) (u16_5 : Sq qB) (u16_6 : Sq Int) (u16_7 : Sq qB) (u16_8 : Int) : Option ((Unit) ⊕ (Unit)) := uy.val ((u16_0, u16_1, u16_2, u16_3, u16_5, u16_6, u16_7), u16_8)
theorem abW (u16_0 : Int) (u16_1 : Sq qB) (u16_2 : Sq qG) (u16_3 : Sq qE) (u16_5 : Sq qB) (u16_6 : Sq Int) (u16_7 : Sq qB) (u16_8 : Int) : FR u16_0 u16_1 u16_2 u16_3 u16_5 u16_6 u16_7 u16_8 = fixO (fun v : Int => Co u16_0 u16_1 u16_2 u16_3 u16_5 u16_6 u16_7 v) u16_8 := uy.val_eq (fun x => ((intA (aget x.tm 1), sqD qB.dec (aget x.tm 9), sqD qG.dec (aget x.tm 10), sqD qE.dec (aget x.tm 11), sqB qB.dec (blkS x 2496), sqB dI (blkS x 2497), sqB qB.dec (blkS x 3200)), intA (aget x.tm 94))) (fun p => by kernel_rfl) ((u16_0, u16_1, u16_2, u16_3, u16_5, u16_6, u16_7), u16_8)
def Ig (codes : Sq Int) (time : Int) : DT (Bool) :=
 .bind (New codes) fun z1 =>
 .bind (F7 z1) fun z2 =>
 .bind (M8 (qF.mk z1.l_ z2.2.2.2) z2.2.2.1.Flows) fun z3 =>
 .bind (IW (qF.mk z1.l_ z3.2) z2.2.2.1.Flows false) fun z4 =>
 .sum (GK time z3.1 z4.1 z4.2.1 (Sq.mk 0 (fun _ => (qE.mk (0 : Int) (0 : Int) (qB.mk (0 : Int) (0 : Int))))) (0 : Int)) (fun y0 =>
 .bind (wR z3.1 z4.1 z4.2.1 (wr time)) fun z5 =>
 .bind (wR z3.1 z4.1 y0 (wr time)) fun z6 =>
 .ite (((z5.1.n : Nat) : Int) != ((z3.1.n : Nat) : Int)) (
 .leaf false) (
 .ite (((z6.1.n : Nat) : Int) != ((z3.1.n : Nat) : Int)) (
 .leaf false) (
 .ite (!((((z5.2.n : Nat) : Int) == (0 : Int)) == (((z6.2.n : Nat) : Int) == (0 : Int)))) (
 .leaf false) (
 .sum (FR time z3.1 z4.1 z4.2.1 z5.1 z5.2 z6.1 (0 : Int)) (fun _ =>
 .ite (decide (((z5.2.n : Nat) : Int) > (0 : Int))) (
 .bind (rD) fun z7 =>
 .leaf z7) (
 .bind (Gd z5.1 z6.1) fun z8 =>
 .ite z8 (
 .bind (rD) fun z9 =>
 .leaf z9) (
 .leaf false))) (fun _ => .leaf false))))) (fun _ => .fail)
def rV : FnM := flM ((Sq Int) × Int) (Bool) (fun p => ([sqA 1 (eI .u8) p.1, .int .u8 p.2], [])) (fun p => Ig p.1 p.2) (fun r => .bool r) (fun _ => rfl)
def FQ : Env := envM [(9, ZK.c), (10, uT.c), (18, wC.c), (23, sG.c), (25, rR.c), (30, vB.c), (15, su.c), (14, vC.c)] [(7, [1, 9, 10, 11, 12, 41, 42], [1, 9, 10, 11, 12]), (16, [1, 9, 10, 11, 14, 15, 16, 92, 93, 94], [4, 14, 15, 16])] [(7, uL.c), (16, uy.c)] [(10, [.freeze 2624]), (1000007, [.asrow 1920 63 4 (fun _ => qE.enc (qE.mk (0 : Int) (0 : Int) (qB.mk (0 : Int) (0 : Int)))), .freeze 1920]), (11, [.freeze 1216, .freeze 1536, .freeze 1537])] [(7, [1216, 1536, 1537, 1920]), (16, [2496, 2497, 3200])] 0
def Ie : Env := { FQ with nt := 147 }
theorem Jt : aQ Ie (qd 7 Tryz.f7) uL.c := uL.tells 2176 (fun _ => by kernel_rfl) (fun _ _ _ _ => by kernel_rfl) (fun _ _ _ _ => by kernel_rfl) fun R f v N K => by kernel_rfl
theorem IU : aQ Ie (qd 16 Tryz.f7) uy.c := uy.tells 5184 (fun _ => by kernel_rfl) (fun _ _ _ _ => by kernel_rfl) (fun _ _ _ _ => by kernel_rfl) fun R f v N K => by kernel_rfl
theorem acE : aI Tryz.prog 7 rV.c := rV.tells Tryz.func7 (show ∀ p, arun FQ Tryz.f7 (rV.enc p).1 (rV.enc p).2 = _ from fun p => by kernel_rfl) (qg [qd 7 Tryz.f7, qd 16 Tryz.f7] (by kernel_rfl) ⟨lpT (by kernel_rfl) Jt, ⟨lpT (by kernel_rfl) IU, trivial⟩⟩) (.cons LC (.cons xZ (.cons F8 (.cons Ep (.cons yt (.cons WC (.cons wN (.cons Dk .nil))))))))
theorem adz : ∀ a b, rV.enc a = rV.enc b → a = b := linj (fun x => (sqD dI (gd x.1 0), intA (gd x.1 1))) (fun p => by kernel_rfl)
end
end Go.Proofs.YtimkpfnbkclclaaGreat.Ab
