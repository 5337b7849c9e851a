/- A part of the proof, what is needed of it. -/
import Derived.Test.YtimkpfnbkclclaaGreatPm12
namespace Go.Proofs.YtimkpfnbkclclaaGreat.Ab
open Go
structure PlD (P : Sq qA) (sh : Nat) : Prop where
  n : sh ≤ P.n
  f : ∀ k, k < P.n → (P.f k).Surface = Nat.blt k sh ∧ -100 ≤ (P.f k).Height ∧ (P.f k).Height ≤ 10
theorem alG {c : qF} (hc : CdOK c) (sh : Nat) (x : Int) (n : Int) (hn0 : 0 ≤ n) (hn : n ≤ 4) (P : Sq qA) (h : PlD P sh) (hP : P.n ≤ 2) :
    ∃ y, M7 c.l_ x n c.at_ P = some (.inl y) ∧ 0 ≤ y.1 ∧ y.1 ≤ 300 ∧ PlD y.2 sh ∧ y.2.n ≤ 6 := by
  have key := pY (step := fun v : Int × Int × Sq qA => Kq c.l_ x v.1 v.2.1 v.2.2)
    (fun v => 0 ≤ v.1 ∧ v.1 ≤ 4 ∧ 0 ≤ v.2.1 ∧ v.2.1 ≤ 300 ∧ v.2.2.n ≤ 6 - v.1.toNat ∧ PlD v.2.2 sh) (fun v => v.1.toNat)
    (fun z => ∃ y, z = .inl y ∧ 0 ≤ y.1 ∧ y.1 ≤ 300 ∧ PlD y.2 sh ∧ y.2.n ≤ 6) (fun v hv => by
      obtain ⟨m, b, P⟩ := v
      obtain ⟨h1, h2, h3, h4, h5, h6⟩ := hv
      dsimp only at h1 h2 h3 h4 h5 h6 ⊢
      unfold Kq
      by_cases hm : m > 0
      · obtain ⟨w1, b1, f1, m1, o1, p1, q1, _⟩ := aiO (hc.at h3 h4) 100 (by omega)
        have q1 := q1 (by omega)
        have z1 : wr (m - 1) = m - 1 := pJ (by omega) (by omega)
        have z2 : wr (0 - w1) = 0 - w1 := pJ (by omega) (by omega)
        have h6n := h6.n
        rw [qo (decide_eq_true hm), get_bind f1, qo (decide_eq_true ⟨by omega, by omega⟩), z1, z2]
        refine ⟨_, rfl, ⟨by dsimp only; omega, by dsimp only; omega, m1, o1, by dsimp only; omega, by dsimp only; omega, fun i hi => ?_⟩, by dsimp only; omega⟩
        dsimp only at hi ⊢
        by_cases hk : i < P.n
        · rw [ajf hk]; exact h6.f i hk
        · rw [ajl (n := P.n) (by omega), ajl (n := sh) (by omega)]
          dsimp only [cond]
          exact ⟨rfl, by omega, by omega⟩
      · rw [qm (decide_eq_false hm)]
        exact ⟨_, rfl, _, rfl, h3, h4, h6, by dsimp only; omega⟩)
    (n, c.at_, P) ⟨hn0, hn, hc.a0, hc.a1, by dsimp only; omega, h⟩
  obtain ⟨z, hz, y, rfl, g⟩ := key
  exact ⟨y, by rw [af8]; exact hz, g⟩
structure PrD (p : Sq Int) (n sh : Nat) : Prop where
  nn : p.n = n
  f : ∀ k, k < n → -4000 ≤ p.f k ∧ p.f k ≤ 4000
  z : ∀ k, k < sh → p.f k = 0
theorem amM {c : qF} (hc : CdOK c) (sh : Nat) (x : Int) (P : Sq qA) (h : sh ≤ P.n) (hP : P.n ≤ 6) :
    ∃ y, Lf c.l_ P x c.at_ ⟨P.n, fun _ => 0⟩ sh = some (.inl y) ∧ 0 ≤ y.1 ∧ y.1 ≤ 300 ∧ PrD y.2 P.n sh := by
  have key := pY (step := fun v : Int × Sq Int × Int => I6 c.l_ P x v.1 v.2.1 v.2.2)
    (fun v => 0 ≤ v.1 ∧ v.1 ≤ 300 ∧ (sh : Int) ≤ v.2.2 ∧ v.2.2 ≤ P.n ∧ PrD v.2.1 P.n sh) (fun v => P.n - v.2.2.toNat)
    (fun z => ∃ y, z = .inl y ∧ 0 ≤ y.1 ∧ y.1 ≤ 300 ∧ PrD y.2 P.n sh) (fun v hv => by
      obtain ⟨b, p, i⟩ := v
      obtain ⟨h1, h2, h3, h4, h5⟩ := hv
      dsimp only at h1 h2 h3 h4 h5 ⊢
      obtain ⟨j, rfl⟩ : ∃ j : Nat, i = j := ⟨i.toNat, by omega⟩
      have hn := h5.nn
      unfold I6
      by_cases hm : j < P.n
      · obtain ⟨w1, b1, f1, m1, o1, p1, q1⟩ := aiT (hc.at h1 h2) (-4000) 4000 (by omega) (by omega) (by omega)
        rw [qo (dlt hm), get_bind f1, qo (dix (by omega)), qc (by omega), pI]
        refine ⟨_, rfl, ⟨m1, o1, by dsimp only; omega, by dsimp only; omega, h5.nn, fun k hk => ?_, fun k hk => ?_⟩, by dsimp only; omega⟩
        · dsimp only
          cases hb : Nat.beq k j with
          | true => exact ⟨p1, q1⟩
          | false => exact h5.f k hk
        · dsimp only
          cases hb : Nat.beq k j with
          | true => have := Nat.eq_of_beq_eq_true hb; omega
          | false => exact h5.z k hk
      · rw [qm (dge (by omega))]
        exact ⟨_, rfl, _, rfl, h1, h2, h5⟩)
    (c.at_, ⟨P.n, fun _ => 0⟩, sh) ⟨hc.a0, hc.a1, by dsimp only; omega, by dsimp only; omega, rfl, fun k _ => by dsimp only; omega, fun k _ => rfl⟩
  obtain ⟨z, hz, y, rfl, g⟩ := key
  exact ⟨y, by rw [afn]; exact hz, g⟩
structure RoD (r : qC) (q : Int) (n : Nat) : Prop where
  f0 : 0 ≤ r.From
  f1 : r.From < n
  t0 : 0 ≤ r.To
  t1 : r.To < n
  ne : r.From ≠ r.To
  d : RdD r
  q0 : -300 ≤ q
  q1 : q ≤ 300
  z : r.Closed = true → q = 0
def net (R : Sq qC) (q : Sq Int) (k : Int) : Nat → Int
  | 0 => 0
  | j + 1 => net R q k j + (if (R.f j).From = k then q.f j else 0) - (if (R.f j).To = k then q.f j else 0)
theorem alc (R : Sq qC) (q : Sq Int) (k : Int) (j : Nat) : net R q k (j + 1) = net R q k j + (if (R.f j).From = k then q.f j else 0) - (if (R.f j).To = k then q.f j else 0) := rfl
theorem amu {R R' : Sq qC} {q q' : Sq Int} {k : Int} : ∀ n, (∀ j, j < n → (R.f j).From = (R'.f j).From ∧ (R.f j).To = (R'.f j).To ∧ q.f j = q'.f j) → net R q k n = net R' q' k n := by
  intro n
  induction n with
  | zero => intro _; rfl
  | succ n ih =>
    intro h
    obtain ⟨a, b, d⟩ := h n (by omega)
    rw [alc, alc, ih fun j hj => h j (by omega), a, b, d]
structure NtD (R : Sq qC) (q N : Sq Int) (n : Nat) : Prop where
  qn : q.n = R.n
  Nn : N.n = n
  b : ∀ k, k < n → -(60 * R.n : Int) ≤ N.f k ∧ N.f k ≤ 60 * R.n
  e : ∀ k, k < n → net R q k R.n = N.f k
  r : ∀ j, j < R.n → RoD (R.f j) (q.f j) n
theorem aoc {R : Sq qC} {q : Sq Int} {R' : Sq qC} {q' : Sq Int} {k : Int} {r : qC} {v : Int} (hR : ∀ j, j < R.n → R'.f j = R.f j) (hq : ∀ j, j < R.n → q'.f j = q.f j) (hr : R'.f R.n = r) (hv : q'.f R.n = v) :
    net R' q' k (R.n + 1) = net R q k R.n + (if r.From = k then v else 0) - (if r.To = k then v else 0) := by
  rw [alc, hr, hv, amu (R' := R) (q' := q) R.n fun j hj => by rw [hR j hj, hq j hj]; exact ⟨rfl, rfl, rfl⟩]
theorem NtD.app {R : Sq qC} {q N : Sq Int} {n : Nat} (h : NtD R q N n) (_ : R.n ≤ 4) {r : qC} {v : Int} (hr : RoD r v n) (v0 : -60 ≤ v) (v1 : v ≤ 60) {R' : Sq qC} {q' N' : Sq Int} (hRn : R'.n = R.n + 1) (hqn : q'.n = q.n + 1) (hNn : N'.n = N.n)
    (hR : ∀ j, R'.f j = if j < R.n then R.f j else r) (hq : ∀ j, q'.f j = if j < q.n then q.f j else v)
    (hN : ∀ k : Nat, k < n → N'.f k = N.f k + (if r.From = k then v else 0) - (if r.To = k then v else 0)) : NtD R' q' N' n := by
  have hq0 := h.qn
  refine ⟨by omega, by rw [hNn]; exact h.Nn, fun k hk => ?_, fun k hk => ?_, fun j hj => ?_⟩
  · have := h.b k hk
    have ne := hr.ne
    rw [hN k hk, hRn]
    split <;> split <;> omega
  · rw [hRn, aoc (q := q) (r := r) (v := v) (fun j hj => by rw [hR, if_pos hj]) (fun j hj => by rw [hq, if_pos (by omega)]) (by rw [hR, if_neg (by omega)]) (by rw [hq, if_neg (by omega)]), h.e k hk, hN k hk]
  · rw [hR, hq]
    by_cases c : j < R.n
    · rw [if_pos c, if_pos (by omega)]; exact h.r j c
    · rw [if_neg c, if_neg (by omega)]; exact hr
theorem ajg {α : Type} (k n : Nat) (x y : α) : cond (Nat.blt k n) x y = if k < n then x else y := by
  by_cases h : k < n
  · rw [ajf h, if_pos h]; rfl
  · rw [ajl (by omega), if_neg h]; rfl
theorem ajw {k n : Nat} (h : k = n) : Nat.beq k n = true := by subst h; exact Nat.beq_refl k
theorem ajM {k n : Nat} (h : k ≠ n) : Nat.beq k n = false := by
  cases hb : Nat.beq k n with
  | false => rfl
  | true => exact absurd (Nat.eq_of_beq_eq_true hb) h
theorem akE {n k : Nat} {R : Nat → qC} {r : qC} : (qC.mk (cond (Nat.blt k n) (R k).From r.From) (cond (Nat.blt k n) (R k).To r.To) (cond (Nat.blt k n) (R k).Length r.Length) (cond (Nat.blt k n) (R k).Area r.Area) (cond (Nat.blt k n) (R k).Walk r.Walk) (cond (Nat.blt k n) (R k).Closed r.Closed) (qB.mk (cond (Nat.blt k n) (R k).Rest.Low r.Rest.Low) (cond (Nat.blt k n) (R k).Rest.High r.Rest.High)) (qB.mk (cond (Nat.blt k n) (R k).Lift.Low r.Lift.Low) (cond (Nat.blt k n) (R k).Lift.High r.Lift.High))) = if k < n then R k else r := by
  by_cases h : k < n
  · rw [ajf h, if_pos h]; rfl
  · rw [ajl (by omega), if_neg h]; rfl
theorem amN {c : qF} (hc : CdOK c) (x : Int) (P : Sq qA) (p : Sq Int) (hP : P.n ≤ 6) (hP1 : 1 < P.n) (n : Int) (hn0 : 0 ≤ n) (hn : n ≤ 5) (R0 : Sq qC) (q0 : Sq Int) (hR0 : R0.n = 0) (hq0 : q0.n = 0) :
    ∃ y, Lg c.l_ P p x n c.at_ R0 q0 ⟨P.n, fun _ => 0⟩ = some (.inl y) ∧ 0 ≤ y.1 ∧ y.1 ≤ 300 ∧ NtD y.2.1 y.2.2.1 y.2.2.2 P.n ∧ y.2.1.n ≤ 5 := by
  have key := pY (step := fun v : Int × Int × Sq qC × Sq Int × Sq Int => I7 c.l_ P p x v.1 v.2.1 v.2.2.1 v.2.2.2.1 v.2.2.2.2)
    (fun v => 0 ≤ v.1 ∧ v.1 ≤ 5 ∧ 0 ≤ v.2.1 ∧ v.2.1 ≤ 300 ∧ v.2.2.1.n ≤ 5 - v.1.toNat ∧ NtD v.2.2.1 v.2.2.2.1 v.2.2.2.2 P.n) (fun v => v.1.toNat)
    (fun z => ∃ y, z = .inl y ∧ 0 ≤ y.1 ∧ y.1 ≤ 300 ∧ NtD y.2.1 y.2.2.1 y.2.2.2 P.n ∧ y.2.1.n ≤ 5) (fun v hv => by
      obtain ⟨m, b, R, q, N⟩ := v
      obtain ⟨h1, h2, h3, h4, h5, h6⟩ := hv
      dsimp only at h1 h2 h3 h4 h5 h6 ⊢
      unfold I7
      by_cases hm : m > 0
      · obtain ⟨w1, b1, f1, m1, o1, p1, q1, _⟩ := aiO (hc.at h3 h4) (P.n : Int) (by omega)
        have q1 := q1 (by omega)
        obtain ⟨w2, b2, f2, m2, o2, p2, q2, _⟩ := aiO (hc.at m1 o1) (wr ((P.n : Int) - 1)) (by rw [pJ (by omega) (by omega)]; omega)
        have z0 : wr ((P.n : Int) - 1) = (P.n : Int) - 1 := pJ (by omega) (by omega)
        have q2 := q2 (by omega)
        rw [z0] at q2
        have z1 : wr (m - 1) = m - 1 := pJ (by omega) (by omega)
        have z2 : wr (wr (w1 + 1) + w2) = w1 + 1 + w2 := by rw [pJ (x := w1 + 1) (by omega) (by omega)]; exact pJ (by omega) (by omega)
        obtain ⟨t0, t1, tn⟩ : 0 ≤ Int.tmod (w1 + 1 + w2) P.n ∧ Int.tmod (w1 + 1 + w2) P.n < P.n ∧ Int.tmod (w1 + 1 + w2) P.n ≠ w1 := by
          by_cases c : w1 + 1 + w2 < P.n
          · rw [Int.tmod_eq_of_lt (by omega) c]; omega
          · rw [Int.tmod_eq_emod_of_nonneg (by omega), show w1 + 1 + w2 = (w1 + 1 + w2 - P.n) + P.n by omega, Int.add_emod_right, Int.emod_eq_of_lt (by omega) (by omega)]
            omega
        generalize hto : Int.tmod (w1 + 1 + w2) P.n = to_ at t0 t1 tn
        obtain ⟨r, b3, f3, m3, o3, rd, rf, rt, rc⟩ := akk (hc.at m2 o2) w1 to_
        obtain ⟨cl, b4, f4, m4, o4⟩ := ai8 (hc.at m3 o3) 7 (by omega)
        obtain ⟨w5, b5, f5, m5, o5, p5, q5⟩ := aiT (hc.at m4 o4) (-60) 60 (by omega) (by omega) (by omega)
        have hq := h6.qn
        have hN := h6.Nn
        rw [qo (decide_eq_true hm), get_bind f1, get_bind f2, qo (by simp; omega), z2, hto, get_bind f3, get_bind f4, get_bind f5]
        dsimp only
        have step : ∀ v : Int, (cl = true → v = 0) → -60 ≤ v → v ≤ 60 → ∀ (R' : Sq qC) (q' N' : Sq Int), R'.n = R.n + 1 → (∀ j, R'.f j = if j < R.n then R.f j else { r with Closed := cl }) → q'.n = q.n + 1 → (∀ j, q'.f j = if j < q.n then q.f j else v) → N'.n = N.n →
            (∀ k, N'.f k = cond (Nat.beq k r.To.toNat) (wr ((cond (Nat.beq r.To.toNat r.From.toNat) (wr (N.f r.From.toNat + v)) (N.f r.To.toNat)) - v)) (cond (Nat.beq k r.From.toNat) (wr (N.f r.From.toNat + v)) (N.f k))) → NtD R' q' N' P.n := by
          intro v hv v0 v1 R' q' N' e1 e2 e3 e4 e5 e6
          refine h6.app (by omega) (r := { r with Closed := cl }) (v := v) ⟨by dsimp only; omega, by dsimp only; omega, by dsimp only; omega, by dsimp only; omega, by dsimp only; omega, ⟨rd.l0, rd.l1, rd.a0, rd.a1, rd.r0, rd.r1, rd.r2⟩, by omega, by omega, hv⟩ v0 v1 e1 e3 e5 e2 e4 (fun k hk => ?_)
          dsimp only
          have bF := h6.b r.From.toNat (by omega)
          have bT := h6.b r.To.toNat (by omega)
          rw [e6, ajM (k := r.To.toNat) (n := r.From.toNat) (by omega)]
          dsimp only [cond]
          rw [pJ (x := N.f r.From.toNat + v) (by omega) (by omega), pJ (x := N.f r.To.toNat - v) (by omega) (by omega)]
          by_cases kT : k = r.To.toNat
          · rw [ajw kT, if_neg (show ¬ r.From = k by omega), if_pos (show r.To = k by omega)]
            dsimp only
            rw [← kT]; omega
          · rw [ajM kT, if_neg (show ¬ r.To = k by omega)]
            dsimp only
            by_cases kF : k = r.From.toNat
            · rw [ajw kF, if_pos (show r.From = k by omega)]
              dsimp only
              rw [← kF]; omega
            · rw [ajM kF, if_neg (show ¬ r.From = k by omega)]
              dsimp only
              omega
        cases cl with
        | true =>
          rw [qo rfl, qo (decide_eq_true ⟨by omega, by omega⟩), qo (decide_eq_true ⟨by omega, by omega⟩), qo (decide_eq_true ⟨by omega, by omega⟩), qo (decide_eq_true ⟨by omega, by omega⟩), qo (decide_eq_true ⟨by omega, by omega⟩), qo (decide_eq_true ⟨by omega, by omega⟩), z1]
          refine ⟨_, rfl, ⟨by dsimp only; omega, by dsimp only; omega, m5, o5, by dsimp only; omega, step 0 (fun _ => rfl) (by omega) (by omega) _ _ _ rfl (fun j => ?_) rfl (fun j => ajg _ _ _ _) rfl (fun k => rfl)⟩, by dsimp only; omega⟩
          dsimp only
          exact akE (R := R.f) (r := { r with Closed := true })
        | false =>
          rw [qm rfl, qo (decide_eq_true ⟨by omega, by omega⟩), qo (decide_eq_true ⟨by omega, by omega⟩), qo (decide_eq_true ⟨by omega, by omega⟩), qo (decide_eq_true ⟨by omega, by omega⟩), qo (decide_eq_true ⟨by omega, by omega⟩), qo (decide_eq_true ⟨by omega, by omega⟩), z1]
          refine ⟨_, rfl, ⟨by dsimp only; omega, by dsimp only; omega, m5, o5, by dsimp only; omega, step w5 (fun h => by cases h) (by omega) (by omega) _ _ _ rfl (fun j => ?_) rfl (fun j => ajg _ _ _ _) rfl (fun k => rfl)⟩, by dsimp only; omega⟩
          dsimp only
          exact akE (R := R.f) (r := { r with Closed := false })
      · rw [qm (decide_eq_false hm)]
        exact ⟨_, rfl, _, rfl, h3, h4, h6, by dsimp only; omega⟩)
    (n, c.at_, R0, q0, ⟨P.n, fun _ => 0⟩) ⟨hn0, hn, hc.a0, hc.a1, by dsimp only; omega, by dsimp only; omega, rfl, fun k _ => by dsimp only; omega, fun k _ => by dsimp only; rw [hR0]; rfl, fun j hj => by dsimp only at hj; omega⟩
  obtain ⟨z, hz, y, rfl, g⟩ := key
  exact ⟨y, by rw [afo]; exact hz, g⟩
structure FlD (R : Sq qC) (q : Sq Int) (sh n : Nat) : Prop where
  qn : q.n = R.n
  e : ∀ k : Nat, sh ≤ k → k < n → net R q k R.n = 0
  r : ∀ j, j < R.n → RoD (R.f j) (q.f j) n
theorem alj {c : qF} (hc : CdOK c) (sh : Nat) (h0 : 1 ≤ sh) (P : Sq qA) (p : Sq Int) (hP : P.n ≤ 6) (hsh : sh ≤ P.n) (N R0 q0) (h : NtD R0 q0 N P.n) (hR : R0.n ≤ 5) :
    ∃ y, DJ c.l_ P p N sh c.at_ R0 q0 sh = some (.inl y) ∧ 0 ≤ y.1 ∧ y.1 ≤ 300 ∧ FlD y.2.1 y.2.2 sh P.n ∧ y.2.1.n ≤ 10 := by
  have hNn := h.Nn
  have key := pY (step := fun v : Int × Sq qC × Sq Int × Int => I8 c.l_ P p N sh v.1 v.2.1 v.2.2.1 v.2.2.2)
    (fun v => 0 ≤ v.1 ∧ v.1 ≤ 300 ∧ (sh : Int) ≤ v.2.2.2 ∧ v.2.2.2 ≤ P.n ∧ v.2.1.n ≤ 5 + (v.2.2.2.toNat - sh) ∧ v.2.2.1.n = v.2.1.n ∧ (∀ j, j < v.2.1.n → RoD (v.2.1.f j) (v.2.2.1.f j) P.n) ∧ (∀ k : Nat, sh ≤ k → k < P.n → net v.2.1 v.2.2.1 k v.2.1.n = if (k : Int) < v.2.2.2 then 0 else N.f k)) (fun v => P.n - v.2.2.2.toNat)
    (fun z => ∃ y, z = .inl y ∧ 0 ≤ y.1 ∧ y.1 ≤ 300 ∧ FlD y.2.1 y.2.2 sh P.n ∧ y.2.1.n ≤ 10) (fun v hv => by
      obtain ⟨b, R, q, i⟩ := v
      obtain ⟨h1, h2, h3, h4, h5, h6, h7, h8⟩ := hv
      dsimp only at h1 h2 h3 h4 h5 h6 h7 h8 ⊢
      obtain ⟨j, rfl⟩ : ∃ j : Nat, i = j := ⟨i.toNat, by omega⟩
      unfold I8
      by_cases hm : j < P.n
      · obtain ⟨w1, b1, f1, m1, o1, p1, q1, _⟩ := aiO (hc.at h1 h2) (sh : Int) (by omega)
        have q1 := q1 (by omega)
        obtain ⟨r, b3, f3, m3, o3, rd, rf, rt, rc⟩ := akk (hc.at m1 o1) j w1
        obtain ⟨cl, b4, f4, m4, o4⟩ := ai8 (hc.at m3 o3) 2 (by omega)
        have hb := h.b j hm
        have z1 : wr (0 - N.f j) = -N.f j := by rw [pJ (by omega) (by omega)]; omega
        have z2 : wr (0 - -N.f j) = N.f j := by rw [pJ (by omega) (by omega)]; omega
        rw [qo (dlt hm), get_bind f1, get_bind f3, qo (dix (by omega)), get_bind f4, pI]
        dsimp only
        rw [z1, z2, qc (by omega)]
        have stp : ∀ (s : qC) (v : Int), RoD s v P.n → (∀ k : Nat, sh ≤ k → (if s.From = k then v else 0) - (if s.To = k then v else 0) = if k = j then -N.f j else 0) → ∀ (R' : Sq qC) (q' : Sq Int), R'.n = R.n + 1 → (∀ k, R'.f k = if k < R.n then R.f k else s) → q'.n = q.n + 1 → (∀ k, q'.f k = if k < q.n then q.f k else v) →
            (∀ k, k < R'.n → RoD (R'.f k) (q'.f k) P.n) ∧ (∀ k : Nat, sh ≤ k → k < P.n → net R' q' k R'.n = if (k : Int) < ((j + 1 : Nat) : Int) then 0 else N.f k) := by
          intro s v hs hk R' q' e1 e2 e3 e4
          refine ⟨fun k hk => ?_, fun k hk1 hk2 => ?_⟩
          · rw [e2, e4]
            by_cases c : k < R.n
            · rw [if_pos c, if_pos (by omega)]; exact h7 k c
            · rw [if_neg c, if_neg (by omega)]; exact hs
          · rw [e1, aoc (q := q) (r := s) (v := v) (fun j hj => by rw [e2, if_pos hj]) (fun j hj => by rw [e4, if_pos (by omega)]) (by rw [e2, if_neg (by omega)]) (by rw [e4, if_neg (by omega)]), h8 k hk1 hk2]
            have := hk k hk1
            by_cases c1 : k = j
            · rw [if_pos c1] at this
              rw [if_neg (show ¬ (k : Int) < (j : Int) by omega), if_pos (show (k : Int) < ((j + 1 : Nat) : Int) by omega)]
              rw [c1] at this ⊢
              omega
            · rw [if_neg c1] at this
              by_cases c2 : (k : Int) < (j : Int)
              · rw [if_pos c2, if_pos (show (k : Int) < ((j + 1 : Nat) : Int) by omega)]; omega
              · rw [if_neg c2, if_neg (show ¬ (k : Int) < ((j + 1 : Nat) : Int) by omega)]; omega
        have rd' : ∀ s : qC, s = ⟨r.To, r.From, r.Length, r.Area, r.Walk, r.Closed, r.Rest, r.Lift⟩ → RdD s := fun s hs => by subst hs; exact ⟨rd.l0, rd.l1, rd.a0, rd.a1, rd.r0, rd.r1, rd.r2⟩
        cases cl with
        | true =>
          rw [qo rfl, qo (decide_eq_true ⟨by omega, by omega⟩), qo (decide_eq_true ⟨by omega, by omega⟩)]
          obtain ⟨s1, s2⟩ := stp ⟨r.To, r.From, r.Length, r.Area, r.Walk, r.Closed, r.Rest, r.Lift⟩ (N.f j) ⟨by dsimp only; omega, by dsimp only; omega, by dsimp only; omega, by dsimp only; omega, by dsimp only; omega, rd' _ rfl, by omega, by omega, fun h => by dsimp only at h; rw [rc] at h; cases h⟩
            (fun k hk => by
              dsimp only
              rw [if_neg (show ¬ r.To = k by omega)]
              by_cases c : k = j
              · rw [if_pos c, if_pos (by omega)]; omega
              · rw [if_neg c, if_neg (by omega)]; rfl)
            ⟨R.n + 1, fun k => ⟨cond (Nat.blt k R.n) (R.f k).From r.To, cond (Nat.blt k R.n) (R.f k).To r.From, cond (Nat.blt k R.n) (R.f k).Length r.Length, cond (Nat.blt k R.n) (R.f k).Area r.Area, cond (Nat.blt k R.n) (R.f k).Walk r.Walk, cond (Nat.blt k R.n) (R.f k).Closed r.Closed, ⟨cond (Nat.blt k R.n) (R.f k).Rest.Low r.Rest.Low, cond (Nat.blt k R.n) (R.f k).Rest.High r.Rest.High⟩, ⟨cond (Nat.blt k R.n) (R.f k).Lift.Low r.Lift.Low, cond (Nat.blt k R.n) (R.f k).Lift.High r.Lift.High⟩⟩⟩
            ⟨q.n + 1, fun k => cond (Nat.blt k q.n) (q.f k) (N.f j)⟩ rfl (fun k => akE (R := R.f) (r := ⟨r.To, r.From, r.Length, r.Area, r.Walk, r.Closed, r.Rest, r.Lift⟩)) rfl (fun k => ajg _ _ _ _)
          exact ⟨_, rfl, ⟨m4, o4, by dsimp only; omega, by dsimp only; omega, by dsimp only; omega, by dsimp only; omega, s1, s2⟩, by dsimp only; omega⟩
        | false =>
          rw [qm rfl, qo (decide_eq_true ⟨by omega, by omega⟩), qo (decide_eq_true ⟨by omega, by omega⟩)]
          obtain ⟨s1, s2⟩ := stp r (-N.f j) ⟨by omega, by omega, by omega, by omega, by omega, rd, by omega, by omega, fun h => by rw [rc] at h; cases h⟩
            (fun k hk => by
              rw [if_neg (show ¬ r.To = k by omega)]
              by_cases c : k = j
              · rw [if_pos c, if_pos (by omega)]; omega
              · rw [if_neg c, if_neg (by omega)]; rfl)
            ⟨R.n + 1, fun k => ⟨cond (Nat.blt k R.n) (R.f k).From r.From, cond (Nat.blt k R.n) (R.f k).To r.To, cond (Nat.blt k R.n) (R.f k).Length r.Length, cond (Nat.blt k R.n) (R.f k).Area r.Area, cond (Nat.blt k R.n) (R.f k).Walk r.Walk, cond (Nat.blt k R.n) (R.f k).Closed r.Closed, ⟨cond (Nat.blt k R.n) (R.f k).Rest.Low r.Rest.Low, cond (Nat.blt k R.n) (R.f k).Rest.High r.Rest.High⟩, ⟨cond (Nat.blt k R.n) (R.f k).Lift.Low r.Lift.Low, cond (Nat.blt k R.n) (R.f k).Lift.High r.Lift.High⟩⟩⟩
            ⟨q.n + 1, fun k => cond (Nat.blt k q.n) (q.f k) (-N.f j)⟩ rfl (fun k => akE (R := R.f) (r := r)) rfl (fun k => ajg _ _ _ _)
          exact ⟨_, rfl, ⟨m4, o4, by dsimp only; omega, by dsimp only; omega, by dsimp only; omega, by dsimp only; omega, s1, s2⟩, by dsimp only; omega⟩
      · rw [qm (dge (by omega))]
        refine ⟨_, rfl, _, rfl, h1, h2, ⟨h6, fun k hk1 hk2 => ?_, h7⟩, by dsimp only; omega⟩
        dsimp only
        rw [h8 k hk1 hk2, if_pos (by omega)])
    (c.at_, R0, q0, sh) ⟨hc.a0, hc.a1, by dsimp only; omega, by dsimp only; omega, by dsimp only; omega, h.qn, h.r, fun k hk1 hk2 => by dsimp only; rw [if_neg (by omega)]; exact h.e k hk2⟩
  obtain ⟨z, hz, y, rfl, g⟩ := key
  exact ⟨y, by rw [afp]; exact hz, g⟩
end Go.Proofs.YtimkpfnbkclclaaGreat.Ab
