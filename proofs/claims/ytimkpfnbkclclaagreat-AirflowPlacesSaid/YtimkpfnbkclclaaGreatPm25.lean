/- A part of the proof, what is needed of it. -/
import Derived.Test.YtimkpfnbkclclaaGreatPm08
import Derived.Test.YtimkpfnbkclclaaGreatPm21
import Derived.Test.YtimkpfnbkclclaaGreatPm23
import Derived.Test.YtimkpfnbkclclaaGreatPm24
namespace Go.Proofs.YtimkpfnbkclclaaGreat.Ab
noncomputable section
open Go
def Tgt (n : Nat) (l : Sq qG) (x : qE) : Prop := 0 ≤ x.Sensor ∧ x.Sensor < l.n ∧ (l.f x.Sensor.toNat).Kind = 3 ∧ 0 ≤ (l.f x.Sensor.toNat).Target ∧ (l.f x.Sensor.toNat).Target < n
def rdOf (l : Sq qG) (x : qE) : Nat := (l.f x.Sensor.toNat).Target.toNat
structure TS where
  o : Nat → qB
  z : Nat → Bool
  b : Int → Prop
open Classical in
def arY (n : Nat) (l : Sq qG) (t : Int) (T : TS) (x : qE) : TS :=
  if Tgt n l x ∧ T.z (rdOf l x) = false then
    ⟨fun k => if k = rdOf l x then (aqu (T.o (rdOf l x)) (atF (l.f x.Sensor.toNat) x t)).1 else T.o k, fun k => if k = rdOf l x then !(aqu (T.o (rdOf l x)) (atF (l.f x.Sensor.toNat) x t)).2 else T.z k, fun v => T.b v ∨ ((aqu (T.o (rdOf l x)) (atF (l.f x.Sensor.toNat) x t)).2 = false ∧ v = x.Sensor)⟩
  else T
def trun (F : Sq qB) (l : Sq qG) (m : Sq qE) (t : Int) : Nat → TS
  | 0 => ⟨F.f, fun _ => false, fun _ => False⟩
  | k + 1 => arY F.n l t (trun F l m t k) (m.f k)
theorem aqK {F : Sq qB} {l : Sq qG} {m : Sq qE} {t : Int} {k : Nat} (h : ¬ (Tgt F.n l (m.f k) ∧ (trun F l m t k).z (rdOf l (m.f k)) = false)) : trun F l m t (k + 1) = trun F l m t k := if_neg h
theorem aqJ {F : Sq qB} {l : Sq qG} {m : Sq qE} {t : Int} {k : Nat} {x : qE} {r : Nat} {y : qB × Bool} (hx : m.f k = x) (hr : rdOf l x = r) (hy : aqu ((trun F l m t k).o r) (atF (l.f x.Sensor.toNat) x t) = y) (h : Tgt F.n l x) (z : (trun F l m t k).z r = false) :
    trun F l m t (k + 1) = ⟨fun k' => if k' = r then y.1 else (trun F l m t k).o k', fun k' => if k' = r then !y.2 else (trun F l m t k).z k', fun v => (trun F l m t k).b v ∨ (y.2 = false ∧ v = x.Sensor)⟩ := by
  subst hx hr hy
  exact if_pos ⟨h, z⟩
theorem arE {F : Sq qB} {l : Sq qG} {m : Sq qE} {t : Int} (k : Nat) {x : qE} (h : (trun F l m t k).b x.Sensor) : (trun F l m t k).z (rdOf l x) = true := by
  induction k with
  | zero => exact h.elim
  | succ k ih =>
    by_cases c : Tgt F.n l (m.f k) ∧ (trun F l m t k).z (rdOf l (m.f k)) = false
    · have e := aqJ (F := F) (t := t) (rfl : m.f k = m.f k) rfl rfl c.1 c.2
      rw [e] at h ⊢
      dsimp only at h ⊢
      rcases h with h | ⟨h1, h2⟩
      · rw [if_neg fun q => by rw [← q, ih h] at c; cases c.2]
        exact ih h
      · have q : rdOf l x = rdOf l (m.f k) := by unfold rdOf; rw [h2]
        rw [if_pos q, h1]; rfl
    · rw [aqK c] at h ⊢; exact ih h
theorem aq7 {B : Sq Int} {w v : Int} : In ⟨B.n + 1, fun k => cond (Nat.blt k B.n) (B.f k) w⟩ v ↔ In B v ∨ v = w := by
  constructor
  · rintro ⟨j, hj, e⟩
    dsimp only at hj e
    by_cases c : j < B.n
    · rw [ajf c] at e; exact .inl ⟨j, c, e⟩
    · rw [ajl (by omega)] at e; exact .inr e.symm
  · rintro (⟨j, hj, e⟩ | e)
    · exact ⟨j, by dsimp only; omega, by dsimp only; rw [ajf hj]; exact e⟩
    · exact ⟨B.n, by dsimp only; omega, by dsimp only; rw [ajl (Nat.le_refl _)]; exact e.symm⟩
theorem arC {B : Sq Int} {w : Int} (h : Dis B) (n : ¬ In B w) : Dis ⟨B.n + 1, fun k => cond (Nat.blt k B.n) (B.f k) w⟩ := by
  intro i j hi hj e
  dsimp only at hi hj e
  by_cases c1 : i < B.n
  · by_cases c2 : j < B.n
    · rw [ajf c1, ajf c2] at e; exact h i j c1 c2 e
    · rw [ajf c1, ajl (by omega)] at e; exact absurd ⟨i, c1, e⟩ n
  · by_cases c2 : j < B.n
    · rw [ajl (by omega), ajf c2] at e; exact absurd ⟨j, c2, e.symm⟩ n
    · omega
theorem aqn (n m : Int) : ER n m = some (decide (0 ≤ n ∧ n < m)) := by
  rw [aeT]; unfold LJ
  by_cases c : (0 : Int) ≤ n
  · rw [qo (decide_eq_true c)]
    show some _ = some _
    by_cases d : n < m
    · rw [decide_eq_true d, decide_eq_true ⟨c, d⟩]
    · rw [decide_eq_false d, decide_eq_false fun q => d q.2]
  · rw [qm (decide_eq_false c), decide_eq_false fun q => c q.1]; rfl
theorem arj {n : Nat} {l : Sq qG} {x : qE} (h : Tgt n l x) : LK l x n = some true := by
  obtain ⟨h0, h1, h2, h3, h4⟩ := h
  rw [aeg]; unfold Jf
  rw [get_bind (aqn _ _), qo (decide_eq_true ⟨h0, h1⟩), qo (decide_eq_true ⟨h0, h1⟩), qo (by rw [h2]; rfl), qo (decide_eq_true ⟨h0, h1⟩), get_bind (aqn _ _), decide_eq_true (And.intro h3 h4)]; rfl
theorem aru {n : Nat} {l : Sq qG} {x : qE} (h : ¬ Tgt n l x) : LK l x n = some false := by
  rw [aeg]; unfold Jf
  rw [get_bind (aqn _ _)]
  by_cases h0 : 0 ≤ x.Sensor ∧ x.Sensor < l.n
  · rw [qo (decide_eq_true h0), qo (decide_eq_true h0)]
    by_cases h2 : (l.f x.Sensor.toNat).Kind = 3
    · rw [qo (by rw [h2]; rfl), qo (decide_eq_true h0), get_bind (aqn _ _), decide_eq_false fun q => h ⟨h0.1, h0.2, h2, q.1, q.2⟩]; rfl
    · rw [qm (by simpa using h2)]; rfl
  · rw [qm (decide_eq_false h0)]; rfl
structure TIn (F : Sq qB) (T : TS) (k : Nat) (O : Sq qB) (Z : Sq Bool) (B : Sq Int) : Prop where
  on : O.n = F.n
  oe : ∀ j, j < F.n → O.f j = T.o j
  zn : Z.n = F.n
  ze : ∀ j, j < F.n → Z.f j = T.z j
  bn : B.n ≤ k
  bd : Dis B
  bi : ∀ v, In B v ↔ T.b v
structure TgOK (F : Sq qB) (l : Sq qG) (m : Sq qE) (t : Int) (O : Sq qB) (B : Sq Int) : Prop where
  nn : O.n = F.n
  e : ∀ j, j < F.n → O.f j = (trun F l m t m.n).o j
  up : ∀ p q, p < q → q < B.n → B.f p < B.f q
  i : ∀ v, In B v ↔ (trun F l m t m.n).b v
  le : B.n ≤ m.n
theorem aqT {F : Sq qB} {l : Sq qG} {m : Sq qE} {t : Int} (hm : m.n ≤ 12) (ms : ∀ i, i < m.n → Tgt F.n l (m.f i) → MsOK (m.f i) t) :
    ∃ O Z B, Ku F l t m F ⟨F.n, fun _ => false⟩ ⟨0, fun _ => 0⟩ 0 = some (.inl (O, Z, B)) ∧ TIn F (trun F l m t m.n) m.n O Z B := by
  obtain ⟨z, hz, O, Z, B, rfl, g⟩ := pY (step := fun v : Sq qB × Sq Bool × Sq Int × Int => EP F l t m v.1 v.2.1 v.2.2.1 v.2.2.2)
    (fun v => ∃ k : Nat, v.2.2.2 = k ∧ k ≤ m.n ∧ TIn F (trun F l m t k) k v.1 v.2.1 v.2.2.1) (fun v => m.n - v.2.2.2.toNat)
    (fun z => ∃ O Z B, z = .inl (O, Z, B) ∧ TIn F (trun F l m t m.n) m.n O Z B) (fun v hv => by
      obtain ⟨O, Z, B, x⟩ := v
      obtain ⟨k, h1, hk, h⟩ := hv
      dsimp only at h1 h ⊢
      subst h1
      unfold EP
      rcases Nat.lt_or_ge k m.n with hi | hi
      · have dn : m.n - (wr ((k : Int) + 1)).toNat < m.n - (k : Int).toNat := by rw [qc (by omega)]; omega
        have nx := qc (i := k) (by omega)
        have on := h.on
        have zn := h.zn
        have bn := h.bn
        have mk := ms k hi
        have same : trun F l m t (k + 1) = trun F l m t k → TIn F (trun F l m t (k + 1)) (k + 1) O Z B := fun e => by
          rw [e]; exact ⟨h.on, h.oe, h.zn, h.ze, by omega, h.bd, h.bi⟩
        rw [qo (dlt hi), qo (dix hi), pI]
        by_cases c : Tgt F.n l (m.f k)
        · have ms' := mk c
          obtain ⟨h0, h1, h2, h3, h4⟩ := id c
          have hr : (l.f (m.f k).Sensor.toNat).Target.toNat < F.n := by omega
          have oe := h.oe _ hr
          have ze := h.ze _ hr
          rw [get_bind (arj c), qm (b := !true) rfl, qo (decide_eq_true ⟨h0, h1⟩), qo (decide_eq_true ⟨h3, by rw [zn]; exact h4⟩)]
          cases ez : Z.f (l.f (m.f k).Sensor.toNat).Target.toNat with
          | true =>
            rw [qo rfl]
            exact ⟨_, rfl, ⟨k + 1, nx, hi, same (aqK fun q => by have := q.2; unfold rdOf at this; rw [← ze, ez] at this; cases this)⟩, dn⟩
          | false =>
            have z0 : (trun F l m t k).z (l.f (m.f k).Sensor.toNat).Target.toNat = false := by rw [← ze, ez]
            rw [qm rfl, qo (decide_eq_true ⟨h3, by rw [on]; exact h4⟩), get_bind (aq6 h2 ms'), get_bind (aqZ _ _), qo (decide_eq_true ⟨h3, by rw [on]; exact h4⟩)]
            rw [oe]
            have go := fun y e => aqJ (F := F) (t := t) (y := y) (r := (l.f (m.f k).Sensor.toNat).Target.toNat) (rfl : m.f k = m.f k) rfl e c z0
            generalize ey : aqu ((trun F l m t k).o (l.f (m.f k).Sensor.toNat).Target.toNat) (atF (l.f (m.f k).Sensor.toNat) (m.f k) t) = y
            have tg := go y ey
            obtain ⟨y1, y2⟩ := y
            cases y2 with
            | false =>
              rw [qo (b := !false) rfl, qo (decide_eq_true ⟨h3, by rw [zn]; exact h4⟩), qo (decide_eq_true ⟨by omega, by omega⟩)]
              have ni : ¬ In B (m.f k).Sensor := fun q => by
                have := arE k (x := m.f k) ((h.bi _).1 q)
                unfold rdOf at this
                rw [z0] at this; cases this
              refine ⟨_, rfl, ⟨k + 1, nx, hi, ?_⟩, dn⟩
              rw [tg]
              refine ⟨on, fun j hj => ?_, zn, fun j hj => ?_, Nat.succ_le_succ bn, arC h.bd ni, fun v => ?_⟩
              · dsimp only
                by_cases q : j = (l.f (m.f k).Sensor.toNat).Target.toNat
                · rw [ajw q, if_pos q]; rfl
                · rw [ajM q, if_neg q]; exact h.oe j hj
              · dsimp only
                by_cases q : j = (l.f (m.f k).Sensor.toNat).Target.toNat
                · rw [ajw q, if_pos q]; rfl
                · rw [ajM q, if_neg q]; exact h.ze j hj
              · refine aq7.trans ?_
                rw [h.bi v]
                dsimp only
                exact ⟨fun q => q.imp id fun e => ⟨rfl, e⟩, fun q => q.imp id fun e => e.2⟩
            | true =>
              rw [qm (b := !true) rfl]
              refine ⟨_, rfl, ⟨k + 1, nx, hi, ?_⟩, dn⟩
              rw [tg]
              refine ⟨on, fun j hj => ?_, zn, fun j hj => ?_, Nat.le_trans bn (Nat.le_succ k), h.bd, fun v => ?_⟩
              · dsimp only
                by_cases q : j = (l.f (m.f k).Sensor.toNat).Target.toNat
                · rw [ajw q, if_pos q]; rfl
                · rw [ajM q, if_neg q]; exact h.oe j hj
              · dsimp only
                by_cases q : j = (l.f (m.f k).Sensor.toNat).Target.toNat
                · rw [if_pos q, q, ez]; rfl
                · rw [if_neg q]; exact h.ze j hj
              · rw [h.bi v]
                dsimp only
                exact ⟨.inl, fun q => q.elim id fun e => by cases e.1⟩
        · rw [get_bind (aru c), qo (b := !false) rfl]
          exact ⟨_, rfl, ⟨k + 1, nx, hi, same (aqK fun q => c q.1)⟩, dn⟩
      · obtain rfl : k = m.n := by omega
        rw [qm (dge (by omega))]
        exact ⟨_, rfl, _, _, _, rfl, h⟩)
    (F, ⟨F.n, fun _ => false⟩, ⟨0, fun _ => 0⟩, 0) ⟨0, rfl, Nat.zero_le _, rfl, fun _ _ => rfl, rfl, fun _ _ => rfl, Nat.le_refl _, fun _ _ h => absurd h (Nat.not_lt_zero _), fun v => ⟨fun ⟨_, q, _⟩ => absurd q (Nat.not_lt_zero _), fun q => q.elim⟩⟩
  exact ⟨O, Z, B, by rw [adF]; exact hz, g⟩
theorem aq0 (s : Sq qB) (h : s.n ≤ 1000) : K6 s = some s := by
  rw [ad9]; unfold IB
  by_cases h0 : 0 < s.n
  · rw [qo (decide_eq_true h0)]
    unfold xG
    rw [qo (decide_eq_true h0), qo (decide_eq_true ⟨by omega, by omega⟩), show (Sq.mk (0 + s.n) (fun k0 => s.f k0)) = s from by obtain ⟨n, f⟩ := s; show Sq.mk (0 + n) f = Sq.mk n f; rw [Nat.zero_add]]; rfl
  · rw [qm (decide_eq_false h0)]; rfl
theorem aqw {F : Sq qB} {l : Sq qG} {m : Sq qE} {t : Int} (hF : F.n ≤ 1000) (hm : m.n ≤ 12) (ms : ∀ i, i < m.n → Tgt F.n l (m.f i) → MsOK (m.f i) t) :
    ∃ O B, wR F l m t = some (O, B) ∧ TgOK F l m t O B := by
  obtain ⟨O, Z, B, e, h⟩ := aqT hm ms
  have bn := h.bn
  obtain ⟨r, er, hp, hu⟩ := ars B (by omega)
  rw [aeS]; unfold LH
  rw [get_bind (aq0 F hF), qo (decide_eq_true ⟨by omega, by omega, by omega, by omega⟩), pI, pV e]
  dsimp only [Sum.elim]
  rw [get_bind er]
  have rn := hp.n
  have rd := hp.d h.bd
  refine ⟨O, r, rfl, h.on, h.oe, fun p q h1 h2 => ?_, fun v => (hp.i v).trans (h.bi v), by omega⟩
  have a := hu p q h1 (by omega)
  have b : r.f p ≠ r.f q := fun e => by have := rd p q (by omega) h2 e; omega
  omega
end
end Go.Proofs.YtimkpfnbkclclaaGreat.Ab
namespace Go.Proofs.YtimkpfnbkclclaaGreat.Ab
noncomputable section
open Go
attribute [local irreducible] arun
def OI (u5_0 : Int) (u5_2 : Sq qA) (u5_3 : Sq qC) (u5_4 : Sq SFan) (u5_5 : Sq qD) (u5_6 u5_7 : Sq Int) (u5_1 : Int) (u5_8 : Sq Int) (u5_9 : Int) : DT (LR (Int × (Sq Int) × Int) (Int × (Sq Int)) (Int × (Sq Int))) :=
 .ite (decide ((0 : Int) ≤ u5_0 ∧ u5_0 < ((u5_8.n : Nat) : Int))) (
 .bind (G6 (SAir.mk (qI.mk u5_2 u5_3) u5_4 u5_5) (qz.mk u5_6 u5_7) (Sq.mk u5_8.n (fun k0 => (cond (Nat.beq k0 (Int.toNat u5_0)) (if (70368744177664 : Int) < (wr (u5_1 + u5_9)) then (70368744177664 : Int) else (wr (u5_1 + u5_9))) (u5_8.f k0)))) u5_0) fun z0 =>
 .ite (decide (z0 ≥ (0 : Int))) (
 .leaf (.l (u5_1, (Sq.mk u5_8.n (fun k1 => (cond (Nat.beq k1 (Int.toNat u5_0)) (if (70368744177664 : Int) < (wr (u5_1 + u5_9)) then (70368744177664 : Int) else (wr (u5_1 + u5_9))) (u5_8.f k1))))))) (
 .ite (decide ((0 : Int) ≤ u5_0 ∧ u5_0 < ((u5_8.n : Nat) : Int))) (
 .ite ((cond (Nat.beq (Int.toNat u5_0) (Int.toNat u5_0)) (if (70368744177664 : Int) < (wr (u5_1 + u5_9)) then (70368744177664 : Int) else (wr (u5_1 + u5_9))) (u5_8.f (Int.toNat u5_0))) == (70368744177664 : Int)) (
 .leaf (.r (u5_1, (Sq.mk u5_8.n (fun k2 => (cond (Nat.beq k2 (Int.toNat u5_0)) (if (70368744177664 : Int) < (wr (u5_1 + u5_9)) then (70368744177664 : Int) else (wr (u5_1 + u5_9))) (u5_8.f k2))))))) (
 .ite (decide ((0 : Int) ≤ u5_0 ∧ u5_0 < ((u5_8.n : Nat) : Int))) (
 .leaf (.next ((cond (Nat.beq (Int.toNat u5_0) (Int.toNat u5_0)) (if (70368744177664 : Int) < (wr (u5_1 + u5_9)) then (70368744177664 : Int) else (wr (u5_1 + u5_9))) (u5_8.f (Int.toNat u5_0))), (Sq.mk u5_8.n (fun k3 => (cond (Nat.beq k3 (Int.toNat u5_0)) (if (70368744177664 : Int) < (wr (u5_1 + u5_9)) then (70368744177664 : Int) else (wr (u5_1 + u5_9))) (u5_8.f k3)))), (wr (u5_9 * (2 : Int)))))) (
 .fail))) (
 .fail))) (
 .fail)
def Fh : LpM := ⟨Int × (Sq qA) × (Sq qC) × (Sq SFan) × (Sq qD) × (Sq Int) × (Sq Int), Int × (Sq Int) × Int, Int × (Sq Int), Int × (Sq Int), fun p => ⟨[(3, .int .i64 p.1.1), (4, .ptr 0 0), (5, .ptr 64 0), (10, .own 320 0), (11, .int .i64 p.2.1), (12, .int .i64 p.2.2.2)], [(0, .var [sqA 2 qA.enc p.1.2.1, sqA 10 qC.enc p.1.2.2.1, sqA 4 SFan.enc p.1.2.2.2.1, sqA 3 qD.enc p.1.2.2.2.2.1]), (64, .var [sqA 1 (eI .i64) p.1.2.2.2.2.2.1, sqA 1 (eI .i64) p.1.2.2.2.2.2.2]), (320, rowA 0 1 3 (eI .i64) p.2.2.1)], 1600⟩, fun f v => OI f.1 f.2.1 f.2.2.1 f.2.2.2.1 f.2.2.2.2.1 f.2.2.2.2.2.1 f.2.2.2.2.2.2 v.1 v.2.1 v.2.2, false, (.exit 0), (fun x a => ⟨[(3, aget x.tm 3), (4, .ptr 0 0), (5, .ptr 64 0), (8, .undef), (9, .undef), (10, .own 320 0), (11, .int .i64 a.1)], [(0, blkS x 0), (64, blkS x 64), (320, rowA 0 1 3 (eI .i64) a.2)], 1600⟩), .ret, (fun x a => ⟨[(3, aget x.tm 3), (4, .ptr 0 0), (5, .ptr 64 0), (8, .int .i64 (0 : Int)), (9, .bool false), (10, .own 320 0), (11, .int .i64 a.1)], [(0, blkS x 0), (64, blkS x 64), (320, rowA 0 1 3 (eI .i64) a.2)], 1600⟩), c1, c1k⟩
def abl (u5_0 : Int) (u5_2 : Sq qA) (u5_3 : Sq qC) (u5_4 : Sq SFan) (u5_5 : Sq qD) (u5_6 u5_7 : Sq Int) (u5_1 : Int) (u5_8 : Sq Int) (u5_9 : Int) : Option ((Int × (Sq Int)) ⊕ (Int × (Sq Int))) := Fh.val ((u5_0, u5_2, u5_3, u5_4, u5_5, u5_6, u5_7), (u5_1, u5_8, u5_9))
theorem ahG (u5_0 : Int) (u5_2 : Sq qA) (u5_3 : Sq qC) (u5_4 : Sq SFan) (u5_5 : Sq qD) (u5_6 u5_7 : Sq Int) (u5_1 : Int) (u5_8 : Sq Int) (u5_9 : Int) : abl u5_0 u5_2 u5_3 u5_4 u5_5 u5_6 u5_7 u5_1 u5_8 u5_9 = fixO (fun v : Int × (Sq Int) × Int => OI u5_0 u5_2 u5_3 u5_4 u5_5 u5_6 u5_7 v.1 v.2.1 v.2.2) (u5_1, u5_8, u5_9) := Fh.val_eq (fun x => ((intA (aget x.tm 3), sqD qA.dec (cellS x 0 0), sqD qC.dec (cellS x 0 1), sqD SFan.dec (cellS x 0 2), sqD qD.dec (cellS x 0 3), sqD dI (cellS x 64 0), sqD dI (cellS x 64 1)), (intA (aget x.tm 11), sqB dI (blkS x 320), intA (aget x.tm 12)))) (fun p => by kernel_rfl) ((u5_0, u5_2, u5_3, u5_4, u5_5, u5_6, u5_7), (u5_1, u5_8, u5_9))
def MG (u12_0 : Int) (u12_3 : Sq qA) (u12_4 : Sq qC) (u12_5 : Sq SFan) (u12_6 : Sq qD) (u12_7 u12_8 : Sq Int) (u12_1 u12_2 : Int) (u12_9 : Sq Int) : DT (LR (Int × Int × (Sq Int)) (Int × (Sq Int)) (Unit)) :=
 .ite (decide ((wr (u12_1 + (1 : Int))) < u12_2)) (
 .ite (decide ((0 : Int) ≤ u12_0 ∧ u12_0 < ((u12_9.n : Nat) : Int))) (
 .bind (G6 (SAir.mk (qI.mk u12_3 u12_4) u12_5 u12_6) (qz.mk u12_7 u12_8) (Sq.mk u12_9.n (fun k4 => (cond (Nat.beq k4 (Int.toNat u12_0)) (wr (u12_1 + (wr (Int.tdiv (wr (u12_2 - u12_1)) (2 : Int))))) (u12_9.f k4)))) u12_0) fun z1 =>
 .ite (decide (z1 ≥ (0 : Int))) (
 .ite (decide ((0 : Int) ≤ u12_0 ∧ u12_0 < ((u12_9.n : Nat) : Int))) (
 .leaf (.next (u12_1, (cond (Nat.beq (Int.toNat u12_0) (Int.toNat u12_0)) (wr (u12_1 + (wr (Int.tdiv (wr (u12_2 - u12_1)) (2 : Int))))) (u12_9.f (Int.toNat u12_0))), (Sq.mk u12_9.n (fun k5 => (cond (Nat.beq k5 (Int.toNat u12_0)) (wr (u12_1 + (wr (Int.tdiv (wr (u12_2 - u12_1)) (2 : Int))))) (u12_9.f k5))))))) (
 .fail)) (
 .ite (decide ((0 : Int) ≤ u12_0 ∧ u12_0 < ((u12_9.n : Nat) : Int))) (
 .leaf (.next ((cond (Nat.beq (Int.toNat u12_0) (Int.toNat u12_0)) (wr (u12_1 + (wr (Int.tdiv (wr (u12_2 - u12_1)) (2 : Int))))) (u12_9.f (Int.toNat u12_0))), u12_2, (Sq.mk u12_9.n (fun k6 => (cond (Nat.beq k6 (Int.toNat u12_0)) (wr (u12_1 + (wr (Int.tdiv (wr (u12_2 - u12_1)) (2 : Int))))) (u12_9.f k6))))))) (
 .fail))) (
 .fail)) (
 .leaf (.l (u12_2, u12_9)))
def D7 : LpM := ⟨Int × (Sq qA) × (Sq qC) × (Sq SFan) × (Sq qD) × (Sq Int) × (Sq Int), Int × Int × (Sq Int), Int × (Sq Int), Unit, fun p => ⟨[(3, .int .i64 p.1.1), (4, .ptr 0 0), (5, .ptr 64 0), (10, .own 320 0), (11, .int .i64 p.2.1), (13, .int .i64 p.2.2.1)], [(0, .var [sqA 2 qA.enc p.1.2.1, sqA 10 qC.enc p.1.2.2.1, sqA 4 SFan.enc p.1.2.2.2.1, sqA 3 qD.enc p.1.2.2.2.2.1]), (64, .var [sqA 1 (eI .i64) p.1.2.2.2.2.2.1, sqA 1 (eI .i64) p.1.2.2.2.2.2.2]), (320, rowA 0 1 3 (eI .i64) p.2.2.2)], 1920⟩, fun f v => MG f.1 f.2.1 f.2.2.1 f.2.2.2.1 f.2.2.2.2.1 f.2.2.2.2.2.1 f.2.2.2.2.2.2 v.1 v.2.1 v.2.2, true, (.exit 2), (fun x a => ⟨[(13, .int .i64 a.1)], [(0, blkS x 0), (64, blkS x 64), (320, rowA 0 1 3 (eI .i64) a.2)], 1920⟩), .ret, (fun _ _ => ⟨[], [], 0⟩), c1, c1k⟩
def Zt (u12_0 : Int) (u12_3 : Sq qA) (u12_4 : Sq qC) (u12_5 : Sq SFan) (u12_6 : Sq qD) (u12_7 u12_8 : Sq Int) (u12_1 u12_2 : Int) (u12_9 : Sq Int) : Option ((Int × (Sq Int)) ⊕ (Unit)) := D7.val ((u12_0, u12_3, u12_4, u12_5, u12_6, u12_7, u12_8), (u12_1, u12_2, u12_9))
theorem ag4 (u12_0 : Int) (u12_3 : Sq qA) (u12_4 : Sq qC) (u12_5 : Sq SFan) (u12_6 : Sq qD) (u12_7 u12_8 : Sq Int) (u12_1 u12_2 : Int) (u12_9 : Sq Int) : Zt u12_0 u12_3 u12_4 u12_5 u12_6 u12_7 u12_8 u12_1 u12_2 u12_9 = fixO (fun v : Int × Int × (Sq Int) => MG u12_0 u12_3 u12_4 u12_5 u12_6 u12_7 u12_8 v.1 v.2.1 v.2.2) (u12_1, u12_2, u12_9) := D7.val_eq (fun x => ((intA (aget x.tm 3), sqD qA.dec (cellS x 0 0), sqD qC.dec (cellS x 0 1), sqD SFan.dec (cellS x 0 2), sqD qD.dec (cellS x 0 3), sqD dI (cellS x 64 0), sqD dI (cellS x 64 1)), (intA (aget x.tm 11), intA (aget x.tm 13), sqB dI (blkS x 320)))) (fun p => by kernel_rfl) ((u12_0, u12_3, u12_4, u12_5, u12_6, u12_7, u12_8), (u12_1, u12_2, u12_9))
def acR (a : SAir) (s : qz) (pressures : Sq Int) (place : Int) : DT (Int × Bool) :=
 .ite (decide (pressures.n * 8 ≤ 140737488355328 ∧ pressures.n ≤ 1099511627776)) (
 .bind (G6 a s pressures place) fun z2 =>
 .ite (decide (z2 ≥ (0 : Int))) (
 .ite (decide ((0 : Int) ≤ place ∧ place < ((pressures.n : Nat) : Int))) (.leaf ((pressures.f (Int.toNat place)), true)) (.fail)) (
 .ite (decide ((0 : Int) ≤ place ∧ place < ((pressures.n : Nat) : Int))) (
 .sum (abl place a.Mine.Places a.Mine.Roads a.Fans a.Doors s.Fans s.Doors (pressures.f (Int.toNat place)) pressures (1 : Int)) (fun y0 =>
 .ite (decide ((0 : Int) ≤ place ∧ place < ((y0.2.n : Nat) : Int))) (
 .sum (Zt place a.Mine.Places a.Mine.Roads a.Fans a.Doors s.Fans s.Doors y0.1 (y0.2.f (Int.toNat place)) y0.2) (fun y1 =>
 .leaf (y1.1, true)) (fun _ => .fail)) (
 .fail)) (fun _ => .leaf ((0 : Int), false))) (
 .fail))) (
 .fail)
def Gj : FnM := flM (SAir × qz × (Sq Int) × Int) (Int × Bool) (fun p => ([.agg (SAir.enc p.1), .agg (qz.enc p.2.1), sqA 1 (eI .i64) p.2.2.1, .int .i64 p.2.2.2], [])) (fun p => acR p.1 p.2.1 p.2.2.1 p.2.2.2) (fun r => .tup [.int .i64 r.1, .bool r.2]) (fun _ => rfl)
def afb (a : SAir) (s : qz) (pressures : Sq Int) (place : Int) : Option (Int × Bool) := Gj.val (a, s, pressures, place)
theorem aiI (a : SAir) (s : qz) (pressures : Sq Int) (place : Int) : afb a s pressures place = (acR a s pressures place).get := Gj.val_eq (fun x => (SAir.dec (aggL (gd x.1 0)), qz.dec (aggL (gd x.1 1)), sqD dI (gd x.1 2), intA (gd x.1 3))) (fun p => by kernel_rfl) (a, s, pressures, place)
def KY (u5_0 : Int) (u5_2 : Sq qA) (u5_3 : Sq qC) (u5_4 : Sq SFan) (u5_5 : Sq qD) (u5_6 u5_7 : Sq Int) (u5_1 : Int) (u5_8 : Sq Int) (u5_9 : Int) : DT (LR (Int × (Sq Int) × Int) (Int × (Sq Int)) (Int × (Sq Int))) :=
 .ite (decide ((0 : Int) ≤ u5_0 ∧ u5_0 < ((u5_8.n : Nat) : Int))) (
 .bind (Fg (SAir.mk (qI.mk u5_2 u5_3) u5_4 u5_5) (qz.mk u5_6 u5_7) (Sq.mk u5_8.n (fun k0 => (cond (Nat.beq k0 (Int.toNat u5_0)) (if (wr (u5_1 - u5_9)) < (-70368744177664 : Int) then (-70368744177664 : Int) else (wr (u5_1 - u5_9))) (u5_8.f k0)))) u5_0) fun z0 =>
 .ite (decide (z0 ≤ (0 : Int))) (
 .leaf (.l (u5_1, (Sq.mk u5_8.n (fun k1 => (cond (Nat.beq k1 (Int.toNat u5_0)) (if (wr (u5_1 - u5_9)) < (-70368744177664 : Int) then (-70368744177664 : Int) else (wr (u5_1 - u5_9))) (u5_8.f k1))))))) (
 .ite (decide ((0 : Int) ≤ u5_0 ∧ u5_0 < ((u5_8.n : Nat) : Int))) (
 .ite ((cond (Nat.beq (Int.toNat u5_0) (Int.toNat u5_0)) (if (wr (u5_1 - u5_9)) < (-70368744177664 : Int) then (-70368744177664 : Int) else (wr (u5_1 - u5_9))) (u5_8.f (Int.toNat u5_0))) == (-70368744177664 : Int)) (
 .leaf (.r (u5_1, (Sq.mk u5_8.n (fun k2 => (cond (Nat.beq k2 (Int.toNat u5_0)) (if (wr (u5_1 - u5_9)) < (-70368744177664 : Int) then (-70368744177664 : Int) else (wr (u5_1 - u5_9))) (u5_8.f k2))))))) (
 .ite (decide ((0 : Int) ≤ u5_0 ∧ u5_0 < ((u5_8.n : Nat) : Int))) (
 .leaf (.next ((cond (Nat.beq (Int.toNat u5_0) (Int.toNat u5_0)) (if (wr (u5_1 - u5_9)) < (-70368744177664 : Int) then (-70368744177664 : Int) else (wr (u5_1 - u5_9))) (u5_8.f (Int.toNat u5_0))), (Sq.mk u5_8.n (fun k3 => (cond (Nat.beq k3 (Int.toNat u5_0)) (if (wr (u5_1 - u5_9)) < (-70368744177664 : Int) then (-70368744177664 : Int) else (wr (u5_1 - u5_9))) (u5_8.f k3)))), (wr (u5_9 * (2 : Int)))))) (
 .fail))) (
 .fail))) (
 .fail)
def CU : LpM := ⟨Int × (Sq qA) × (Sq qC) × (Sq SFan) × (Sq qD) × (Sq Int) × (Sq Int), Int × (Sq Int) × Int, Int × (Sq Int), Int × (Sq Int), fun p => ⟨[(3, .int .i64 p.1.1), (4, .ptr 0 0), (5, .ptr 64 0), (10, .own 320 0), (11, .int .i64 p.2.1), (12, .int .i64 p.2.2.2)], [(0, .var [sqA 2 qA.enc p.1.2.1, sqA 10 qC.enc p.1.2.2.1, sqA 4 SFan.enc p.1.2.2.2.1, sqA 3 qD.enc p.1.2.2.2.2.1]), (64, .var [sqA 1 (eI .i64) p.1.2.2.2.2.2.1, sqA 1 (eI .i64) p.1.2.2.2.2.2.2]), (320, rowA 0 1 3 (eI .i64) p.2.2.1)], 1600⟩, fun f v => KY f.1 f.2.1 f.2.2.1 f.2.2.2.1 f.2.2.2.2.1 f.2.2.2.2.2.1 f.2.2.2.2.2.2 v.1 v.2.1 v.2.2, false, (.exit 0), (fun x a => ⟨[(3, aget x.tm 3), (4, .ptr 0 0), (5, .ptr 64 0), (8, .undef), (9, .undef), (10, .own 320 0), (11, .int .i64 a.1)], [(0, blkS x 0), (64, blkS x 64), (320, rowA 0 1 3 (eI .i64) a.2)], 1600⟩), .ret, (fun x a => ⟨[(3, aget x.tm 3), (4, .ptr 0 0), (5, .ptr 64 0), (8, .int .i64 (0 : Int)), (9, .bool false), (10, .own 320 0), (11, .int .i64 a.1)], [(0, blkS x 0), (64, blkS x 64), (320, rowA 0 1 3 (eI .i64) a.2)], 1600⟩), c1, c1k⟩
def Xq (u5_0 : Int) (u5_2 : Sq qA) (u5_3 : Sq qC) (u5_4 : Sq SFan) (u5_5 : Sq qD) (u5_6 u5_7 : Sq Int) (u5_1 : Int) (u5_8 : Sq Int) (u5_9 : Int) : Option ((Int × (Sq Int)) ⊕ (Int × (Sq Int))) := CU.val ((u5_0, u5_2, u5_3, u5_4, u5_5, u5_6, u5_7), (u5_1, u5_8, u5_9))
theorem agD (u5_0 : Int) (u5_2 : Sq qA) (u5_3 : Sq qC) (u5_4 : Sq SFan) (u5_5 : Sq qD) (u5_6 u5_7 : Sq Int) (u5_1 : Int) (u5_8 : Sq Int) (u5_9 : Int) : Xq u5_0 u5_2 u5_3 u5_4 u5_5 u5_6 u5_7 u5_1 u5_8 u5_9 = fixO (fun v : Int × (Sq Int) × Int => KY u5_0 u5_2 u5_3 u5_4 u5_5 u5_6 u5_7 v.1 v.2.1 v.2.2) (u5_1, u5_8, u5_9) := CU.val_eq (fun x => ((intA (aget x.tm 3), sqD qA.dec (cellS x 0 0), sqD qC.dec (cellS x 0 1), sqD SFan.dec (cellS x 0 2), sqD qD.dec (cellS x 0 3), sqD dI (cellS x 64 0), sqD dI (cellS x 64 1)), (intA (aget x.tm 11), sqB dI (blkS x 320), intA (aget x.tm 12)))) (fun p => by kernel_rfl) ((u5_0, u5_2, u5_3, u5_4, u5_5, u5_6, u5_7), (u5_1, u5_8, u5_9))
def JV (u12_0 : Int) (u12_3 : Sq qA) (u12_4 : Sq qC) (u12_5 : Sq SFan) (u12_6 : Sq qD) (u12_7 u12_8 : Sq Int) (u12_1 u12_2 : Int) (u12_9 : Sq Int) : DT (LR (Int × Int × (Sq Int)) (Int × (Sq Int)) (Unit)) :=
 .ite (decide ((wr (u12_2 + (1 : Int))) < u12_1)) (
 .ite (decide ((0 : Int) ≤ u12_0 ∧ u12_0 < ((u12_9.n : Nat) : Int))) (
 .bind (Fg (SAir.mk (qI.mk u12_3 u12_4) u12_5 u12_6) (qz.mk u12_7 u12_8) (Sq.mk u12_9.n (fun k4 => (cond (Nat.beq k4 (Int.toNat u12_0)) (wr (u12_2 + (wr (Int.tdiv (wr (u12_1 - u12_2)) (2 : Int))))) (u12_9.f k4)))) u12_0) fun z1 =>
 .ite (decide (z1 ≤ (0 : Int))) (
 .ite (decide ((0 : Int) ≤ u12_0 ∧ u12_0 < ((u12_9.n : Nat) : Int))) (
 .leaf (.next (u12_1, (cond (Nat.beq (Int.toNat u12_0) (Int.toNat u12_0)) (wr (u12_2 + (wr (Int.tdiv (wr (u12_1 - u12_2)) (2 : Int))))) (u12_9.f (Int.toNat u12_0))), (Sq.mk u12_9.n (fun k5 => (cond (Nat.beq k5 (Int.toNat u12_0)) (wr (u12_2 + (wr (Int.tdiv (wr (u12_1 - u12_2)) (2 : Int))))) (u12_9.f k5))))))) (
 .fail)) (
 .ite (decide ((0 : Int) ≤ u12_0 ∧ u12_0 < ((u12_9.n : Nat) : Int))) (
 .leaf (.next ((cond (Nat.beq (Int.toNat u12_0) (Int.toNat u12_0)) (wr (u12_2 + (wr (Int.tdiv (wr (u12_1 - u12_2)) (2 : Int))))) (u12_9.f (Int.toNat u12_0))), u12_2, (Sq.mk u12_9.n (fun k6 => (cond (Nat.beq k6 (Int.toNat u12_0)) (wr (u12_2 + (wr (Int.tdiv (wr (u12_1 - u12_2)) (2 : Int))))) (u12_9.f k6))))))) (
 .fail))) (
 .fail)) (
 .leaf (.l (u12_2, u12_9)))
def Bv : LpM := ⟨Int × (Sq qA) × (Sq qC) × (Sq SFan) × (Sq qD) × (Sq Int) × (Sq Int), Int × Int × (Sq Int), Int × (Sq Int), Unit, fun p => ⟨[(3, .int .i64 p.1.1), (4, .ptr 0 0), (5, .ptr 64 0), (10, .own 320 0), (11, .int .i64 p.2.1), (13, .int .i64 p.2.2.1)], [(0, .var [sqA 2 qA.enc p.1.2.1, sqA 10 qC.enc p.1.2.2.1, sqA 4 SFan.enc p.1.2.2.2.1, sqA 3 qD.enc p.1.2.2.2.2.1]), (64, .var [sqA 1 (eI .i64) p.1.2.2.2.2.2.1, sqA 1 (eI .i64) p.1.2.2.2.2.2.2]), (320, rowA 0 1 3 (eI .i64) p.2.2.2)], 1920⟩, fun f v => JV f.1 f.2.1 f.2.2.1 f.2.2.2.1 f.2.2.2.2.1 f.2.2.2.2.2.1 f.2.2.2.2.2.2 v.1 v.2.1 v.2.2, true, (.exit 2), (fun x a => ⟨[(13, .int .i64 a.1)], [(0, blkS x 0), (64, blkS x 64), (320, rowA 0 1 3 (eI .i64) a.2)], 1920⟩), .ret, (fun _ _ => ⟨[], [], 0⟩), c1, c1k⟩
def Uo (u12_0 : Int) (u12_3 : Sq qA) (u12_4 : Sq qC) (u12_5 : Sq SFan) (u12_6 : Sq qD) (u12_7 u12_8 : Sq Int) (u12_1 u12_2 : Int) (u12_9 : Sq Int) : Option ((Int × (Sq Int)) ⊕ (Unit)) := Bv.val ((u12_0, u12_3, u12_4, u12_5, u12_6, u12_7, u12_8), (u12_1, u12_2, u12_9))
theorem afT (u12_0 : Int) (u12_3 : Sq qA) (u12_4 : Sq qC) (u12_5 : Sq SFan) (u12_6 : Sq qD) (u12_7 u12_8 : Sq Int) (u12_1 u12_2 : Int) (u12_9 : Sq Int) : Uo u12_0 u12_3 u12_4 u12_5 u12_6 u12_7 u12_8 u12_1 u12_2 u12_9 = fixO (fun v : Int × Int × (Sq Int) => JV u12_0 u12_3 u12_4 u12_5 u12_6 u12_7 u12_8 v.1 v.2.1 v.2.2) (u12_1, u12_2, u12_9) := Bv.val_eq (fun x => ((intA (aget x.tm 3), sqD qA.dec (cellS x 0 0), sqD qC.dec (cellS x 0 1), sqD SFan.dec (cellS x 0 2), sqD qD.dec (cellS x 0 3), sqD dI (cellS x 64 0), sqD dI (cellS x 64 1)), (intA (aget x.tm 11), intA (aget x.tm 13), sqB dI (blkS x 320)))) (fun p => by kernel_rfl) ((u12_0, u12_3, u12_4, u12_5, u12_6, u12_7, u12_8), (u12_1, u12_2, u12_9))
def Zq (a : SAir) (s : qz) (pressures : Sq Int) (place : Int) : DT (Int × Bool) :=
 .ite (decide (pressures.n * 8 ≤ 140737488355328 ∧ pressures.n ≤ 1099511627776)) (
 .bind (Fg a s pressures place) fun z2 =>
 .ite (decide (z2 ≤ (0 : Int))) (
 .ite (decide ((0 : Int) ≤ place ∧ place < ((pressures.n : Nat) : Int))) (.leaf ((pressures.f (Int.toNat place)), true)) (.fail)) (
 .ite (decide ((0 : Int) ≤ place ∧ place < ((pressures.n : Nat) : Int))) (
 .sum (Xq place a.Mine.Places a.Mine.Roads a.Fans a.Doors s.Fans s.Doors (pressures.f (Int.toNat place)) pressures (1 : Int)) (fun y0 =>
 .ite (decide ((0 : Int) ≤ place ∧ place < ((y0.2.n : Nat) : Int))) (
 .sum (Uo place a.Mine.Places a.Mine.Roads a.Fans a.Doors s.Fans s.Doors y0.1 (y0.2.f (Int.toNat place)) y0.2) (fun y1 =>
 .leaf (y1.1, true)) (fun _ => .fail)) (
 .fail)) (fun _ => .leaf ((0 : Int), false))) (
 .fail))) (
 .fail)
def CV : FnM := flM (SAir × qz × (Sq Int) × Int) (Int × Bool) (fun p => ([.agg (SAir.enc p.1), .agg (qz.enc p.2.1), sqA 1 (eI .i64) p.2.2.1, .int .i64 p.2.2.2], [])) (fun p => Zq p.1 p.2.1 p.2.2.1 p.2.2.2) (fun r => .tup [.int .i64 r.1, .bool r.2]) (fun _ => rfl)
def acP (a : SAir) (s : qz) (pressures : Sq Int) (place : Int) : Option (Int × Bool) := CV.val (a, s, pressures, place)
theorem aij (a : SAir) (s : qz) (pressures : Sq Int) (place : Int) : acP a s pressures place = (Zq a s pressures place).get := CV.val_eq (fun x => (SAir.dec (aggL (gd x.1 0)), qz.dec (aggL (gd x.1 1)), sqD dI (gd x.1 2), intA (gd x.1 3))) (fun p => by kernel_rfl) (a, s, pressures, place)
end
end Go.Proofs.YtimkpfnbkclclaaGreat.Ab
