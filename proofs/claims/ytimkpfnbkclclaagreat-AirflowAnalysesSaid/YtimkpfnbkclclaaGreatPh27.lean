/- A part of the proof, what is needed of it. -/
import Derived.Test.YtimkpfnbkclclaaGreatPh21
import Derived.Test.YtimkpfnbkclclaaGreatPh22
import Derived.Test.YtimkpfnbkclclaaGreatPh24
import Derived.Test.YtimkpfnbkclclaaGreatPh26
namespace Go.Proofs.YtimkpfnbkclclaaGreat.Ab
open Go
theorem alX (l : Sq Int) (v : Int) (hn : l.n ≤ 1000) : ∃ b, slices_Contains l v = some b ∧ (b = true ↔ In l v) := by
  have e1 : ∃ z, slices_Index l v = some z ∧ ((z = -1 ∧ ¬ In l v) ∨ (0 ≤ z ∧ In l v)) := by
    have key := pY (step := fun x : Int => II l v x)
      (fun x => ∃ j : Nat, x = j ∧ j ≤ l.n ∧ ∀ k, k < j → l.f k ≠ v) (fun x => l.n - x.toNat)
      (fun z => (z = .inl () ∧ ¬ In l v) ∨ ∃ y : Int, z = .inr y ∧ 0 ≤ y ∧ In l v) (fun x hx => by
        obtain ⟨j, rfl, hj, h⟩ := hx
        unfold II
        by_cases c : j < l.n
        · rw [qo (dlt c), qo (dix c), pI, qc (by omega)]
          by_cases e : l.f j = v
          · rw [qo (by rw [e]; simp)]
            exact ⟨_, rfl, .inr ⟨_, rfl, by omega, j, c, e⟩⟩
          · rw [qm (by simp; omega)]
            exact ⟨_, rfl, ⟨j + 1, rfl, c, fun k hk => by
              by_cases q : k = j
              · rw [q]; exact e
              · exact h k (by omega)⟩, by omega⟩
        · obtain rfl : j = l.n := by omega
          rw [qm (dge (Nat.le_refl _))]
          exact ⟨_, rfl, .inl ⟨rfl, fun ⟨k, hk, e⟩ => h k hk e⟩⟩)
      0 ⟨0, rfl, Nat.zero_le _, fun k hk => absurd hk (Nat.not_lt_zero _)⟩
    obtain ⟨z, hz, ⟨rfl, r⟩ | ⟨y, rfl, y0, r⟩⟩ := key
    · rw [aha]; unfold Uz
      rw [pV (by rw [afk]; exact hz)]
      exact ⟨_, rfl, .inl ⟨rfl, r⟩⟩
    · rw [aha]; unfold Uz
      rw [pV (by rw [afk]; exact hz)]
      exact ⟨_, rfl, .inr ⟨y0, r⟩⟩
  obtain ⟨z, ez, h⟩ := e1
  rw [afj]; unfold MX
  rw [get_bind ez]
  refine ⟨_, rfl, ?_⟩
  rcases h with ⟨z1, h⟩ | ⟨z0, h⟩
  · rw [z1]; exact ⟨fun e => by { cases e }, fun e => absurd e h⟩
  · exact ⟨fun _ => h, fun _ => decide_eq_true z0⟩
theorem aoW (l : Sq Int) (hn : l.n ≤ 64) : ∃ b, AB l = some b ∧ (b = true ↔ ¬ Rng l) := by
  have too : ∀ p : Int, ∃ b, Oj p = some b ∧ (b = true ↔ ¬ (-70368744177664 ≤ p ∧ p ≤ 70368744177664)) := fun p => by
    rw [aeG]; unfold KJ
    by_cases c : p < -70368744177664
    · rw [qo (decide_eq_true c)]; exact ⟨_, rfl, fun _ => by omega, fun _ => rfl⟩
    · rw [qm (decide_eq_false c)]
      refine ⟨_, rfl, fun h => ?_, fun h => decide_eq_true (by omega)⟩
      have := of_decide_eq_true h
      omega
  have e1 : ∃ z, IG l = some z ∧ ((z = -1 ∧ Rng l) ∨ (0 ≤ z ∧ ¬ Rng l)) := by
    have key := pY (step := fun x : Int => BS l x)
      (fun x => ∃ j : Nat, x = j ∧ j ≤ l.n ∧ ∀ k, k < j → -70368744177664 ≤ l.f k ∧ l.f k ≤ 70368744177664) (fun x => l.n - x.toNat)
      (fun z => (z = .inl () ∧ Rng l) ∨ ∃ y : Int, z = .inr y ∧ 0 ≤ y ∧ ¬ Rng l) (fun x hx => by
        obtain ⟨j, rfl, hj, h⟩ := hx
        unfold BS
        by_cases c : j < l.n
        · obtain ⟨b, eb, hb⟩ := too (l.f j)
          rw [qo (dlt c), qo (dix c), pI, qc (by omega), get_bind eb]
          cases b with
          | true =>
            rw [qo rfl]
            exact ⟨_, rfl, .inr ⟨_, rfl, by omega, fun r => hb.1 rfl (r j c)⟩⟩
          | false =>
            rw [qm rfl]
            have e : -70368744177664 ≤ l.f j ∧ l.f j ≤ 70368744177664 := Classical.byContradiction fun n => by cases hb.2 n
            exact ⟨_, rfl, ⟨j + 1, rfl, c, fun k hk => by
              by_cases q : k = j
              · rw [q]; exact e
              · exact h k (by omega)⟩, by omega⟩
        · obtain rfl : j = l.n := by omega
          rw [qm (dge (Nat.le_refl _))]
          exact ⟨_, rfl, .inl ⟨rfl, h⟩⟩)
      0 ⟨0, rfl, Nat.zero_le _, fun k hk => absurd hk (Nat.not_lt_zero _)⟩
    obtain ⟨z, hz, ⟨rfl, r⟩ | ⟨y, rfl, y0, r⟩⟩ := key
    · rw [adt]; unfold F3
      rw [pV (by rw [abN]; exact hz)]
      exact ⟨_, rfl, .inl ⟨rfl, r⟩⟩
    · rw [adt]; unfold F3
      rw [pV (by rw [abN]; exact hz)]
      exact ⟨_, rfl, .inr ⟨y0, r⟩⟩
  obtain ⟨z, ez, h⟩ := e1
  rw [abL]; unfold Ec
  rw [get_bind ez]
  refine ⟨_, rfl, ?_⟩
  rcases h with ⟨z1, h⟩ | ⟨z0, h⟩
  · rw [z1]; exact ⟨fun e => by { cases e }, fun e => absurd h e⟩
  · exact ⟨fun _ => h, fun _ => decide_eq_true z0⟩
theorem amV {m : qI} (ok : aja m) (h12 : m.Places.n ≤ 12) : ∃ c, Nu m = some c ∧ c.n ≤ 1000 ∧ ∀ v : Int, 0 ≤ v → v < m.Places.n → (In c v ↔ ¬ Aw m v) := by
  obtain ⟨c, ec, dc, hc⟩ := anS ok h12
  have r : ∀ i, i < c.n → 0 ≤ c.f i ∧ c.f i < m.Places.n := fun i hi => by
    have := (hc (c.f i)).1 ⟨i, hi, rfl⟩
    exact ⟨this.1, this.2.1⟩
  have := php m.Places.n c.n (fun i => (c.f i).toNat) (fun i hi => by have := r i hi; omega) (fun i j hi hj e => dc i j hi hj (by have := r i hi; have := r j hj; omega))
  exact ⟨c, ec, by omega, fun v v0 v1 => (hc v).trans (ape v0 v1)⟩
theorem aoe {a : SAir} {s : qz} (rt : aiR a s = true) (h12 : a.Mine.Places.n ≤ 12) {b : qL} (pL : aiV a b.Low) (pH : aiV a b.High) :
    ∃ z, Tv a s b = some z ∧ (z = true ↔ ∀ i, i < a.Mine.Places.n → akI a s b.Low b.High i) := by
  have ok := aiU rt
  have ln := pL.n
  have hn := pH.n
  obtain ⟨c, ec, cn, hc⟩ := amV ok.m h12
  have el : Mi a.Mine.Places a.Mine.Roads a.Fans a.Doors s.Fans s.Doors b.Low b.High c 0 = some (sumO (bn (gQ (akI a s b.Low b.High)) a.Mine.Places.n 0)) := by
    rw [aem, ← aiX]
    refine oM (step := fun v => FP a.Mine.Places a.Mine.Roads a.Fans a.Doors s.Fans s.Doors b.Low b.High c v) (gQ (akI a s b.Low b.High)) (fun i hi => ?_) ?_ a.Mine.Places.n 0 (Nat.zero_add _)
    · unfold FP gQ
      rw [qo (dlt hi), qo (dix hi), pI, qc (by omega)]
      have pr : ∀ l, aiV a l → PrOK a s l i := fun l hl => ⟨rt, hl, by omega, by have := hl.n; omega⟩
      have fixed : (a.Mine.Places.f i).Surface = true ∨ ¬ Aw a.Mine i → ∀ fl,
          (akI a s b.Low b.High i ∧ (DT.ite (decide ((0 : Int) ≤ (i : Int) ∧ (i : Int) < ((b.Low.n : Nat) : Int))) (.ite (b.Low.f i != (0 : Int)) (.leaf (.r ())) (.ite (decide ((0 : Int) ≤ (i : Int) ∧ (i : Int) < ((b.High.n : Nat) : Int))) (.ite (b.High.f i != (0 : Int)) (.leaf (.r ())) (.leaf (.next ((i + 1 : Nat) : Int)))) .fail)) fl : DT (LR Int Unit Unit)).get = some (.next ((i + 1 : Nat) : Int)))
          ∨ (¬ akI a s b.Low b.High i ∧ (DT.ite (decide ((0 : Int) ≤ (i : Int) ∧ (i : Int) < ((b.Low.n : Nat) : Int))) (.ite (b.Low.f i != (0 : Int)) (.leaf (.r ())) (.ite (decide ((0 : Int) ≤ (i : Int) ∧ (i : Int) < ((b.High.n : Nat) : Int))) (.ite (b.High.f i != (0 : Int)) (.leaf (.r ())) (.leaf (.next ((i + 1 : Nat) : Int)))) .fail)) fl : DT (LR Int Unit Unit)).get = some (.r ())) := fun fx fl => by
        rw [qo (dix (by omega))]
        by_cases c1 : b.Low.f i = 0
        · rw [qm (by rw [c1]; rfl), qo (dix (by omega))]
          by_cases c2 : b.High.f i = 0
          · rw [qm (by rw [c2]; rfl)]; exact .inl ⟨⟨fun _ => ⟨c1, c2⟩, fun n => absurd fx n⟩, rfl⟩
          · rw [qo (by simp [c2])]; exact .inr ⟨fun q => c2 (q.1 fx).2, rfl⟩
        · rw [qo (by simp [c1])]; exact .inr ⟨fun q => c1 (q.1 fx).1, rfl⟩
      cases hs : (a.Mine.Places.f i).Surface with
      | true =>
        rw [qo rfl]
        rcases fixed (.inl hs) .fail with ⟨h, e⟩ | ⟨h, e⟩
        · rw [if_pos h]; exact e
        · rw [if_neg h]; exact e
      | false =>
        rw [qm rfl]
        obtain ⟨z, ez, hz⟩ := alX c i cn
        have hz' := hz.trans (hc i (by omega) (by omega))
        rw [get_bind ez]
        cases z with
        | true =>
          rw [qo rfl]
          rcases fixed (.inr (hz'.1 rfl)) .fail with ⟨h, e⟩ | ⟨h, e⟩
          · rw [if_pos h]; exact e
          · rw [if_neg h]; exact e
        | false =>
          have nf : ¬ ((a.Mine.Places.f i).Surface = true ∨ ¬ Aw a.Mine i) := fun q => q.elim (fun e => by rw [hs] at e; cases e) fun n => by cases hz'.2 n
          rw [qm rfl]
          refine (get_bind (akn (pr b.High pH))).trans ?_
          unfold netS
          dsimp only
          rw [pI]
          by_cases c1 : NL a s b.High i (b.High.f i) < 0
          · rw [qo (decide_eq_true c1), if_neg fun q => by have := (q.2 nf).1; omega]; rfl
          · rw [qm (decide_eq_false c1)]
            refine (get_bind (akn (pr b.Low pL))).trans ?_
            unfold netS
            dsimp only
            rw [pI]
            by_cases c2 : NH a s b.Low i (b.Low.f i) > 0
            · rw [qo (decide_eq_true c2), if_neg fun q => by have := (q.2 nf).2; omega]; rfl
            · rw [qm (decide_eq_false c2), if_pos ⟨fun q => absurd q nf, fun _ => ⟨by omega, by omega⟩⟩]; rfl
    · unfold FP
      rw [qm (dge (Nat.le_refl _))]; rfl
  rw [afz]; unfold Oi
  rw [get_bind ec]
  by_cases h7 : ∀ i, i < a.Mine.Places.n → akI a s b.Low b.High i
  · rw [amq h7] at el
    rw [pV el]
    exact ⟨true, rfl, fun _ => h7, fun _ => rfl⟩
  · rw [amr h7] at el
    rw [pV el]
    exact ⟨false, rfl, fun h => by (cases h), fun h => absurd h h7⟩
theorem ajP (a : SAir) (s : qz) (b : qL) (h12 : a.Mine.Places.n ≤ 12) : Nk a s b = some (aje a s b) := by
  rw [agi]; unfold Qb aje
  rw [get_bind (aj9 a)]
  by_cases h1 : airE a = 0
  · rw [qm (by rw [h1]; rfl), if_neg (not_not_intro h1), get_bind (ajy a s)]
    by_cases h2 : aiR a s = true
    · rw [h2, qm (b := !true) rfl, if_neg (by simp)]
      by_cases h3 : b.Low.n = a.Mine.Places.n
      · rw [qm (by rw [h3]; simp), if_neg (not_not_intro h3)]
        by_cases h4 : b.High.n = a.Mine.Places.n
        · rw [qm (by rw [h4]; simp), if_neg (not_not_intro h4)]
          obtain ⟨x, ex, hx⟩ := aoW b.Low (by omega)
          obtain ⟨y, ey, hy⟩ := aoW b.High (by omega)
          rw [get_bind ex]
          by_cases h5 : Rng b.Low
          · have : x = false := by cases x with
              | false => rfl
              | true => exact absurd h5 (hx.1 rfl)
            rw [this, qm rfl, if_neg (not_not_intro h5), get_bind ey]
            by_cases h6 : Rng b.High
            · have : y = false := by cases y with
                | false => rfl
                | true => exact absurd h6 (hy.1 rfl)
              obtain ⟨z, ez, hz⟩ := aoe (b := b) h2 h12 ⟨h3, h5⟩ ⟨h4, h6⟩
              rw [this, qm rfl, if_neg (not_not_intro h6), get_bind ez]
              by_cases h7 : ∀ i, i < a.Mine.Places.n → akI a s b.Low b.High i
              · rw [hz.2 h7, qm (b := !true) rfl, if_pos h7]; rfl
              · have : z = false := by cases z with
                  | false => rfl
                  | true => exact absurd (hz.1 rfl) h7
                rw [this, qo (b := !false) rfl, if_neg h7]; rfl
            · rw [hy.2 h6, qo rfl, if_pos h6]; rfl
          · rw [hx.2 h5, qo rfl, if_pos h5]; rfl
        · rw [qo (by simp; omega), if_pos h4]; rfl
      · rw [qo (by simp; omega), if_pos h3]; rfl
    · have h2 : aiR a s = false := by simpa using h2
      rw [h2, qo (b := !false) rfl, if_pos rfl]; rfl
  · rw [qo (by simp [h1]), if_pos h1]; rfl
end Go.Proofs.YtimkpfnbkclclaaGreat.Ab
namespace Go.Proofs.YtimkpfnbkclclaaGreat.Ab
noncomputable section
open Go
def Tgt (n : Nat) (l : Sq qG) (x : qE) : Prop := 0 ≤ x.Sensor ∧ x.Sensor < l.n ∧ (l.f x.Sensor.toNat).Kind = 3 ∧ 0 ≤ (l.f x.Sensor.toNat).Target ∧ (l.f x.Sensor.toNat).Target < n
def rdOf (l : Sq qG) (x : qE) : Nat := (l.f x.Sensor.toNat).Target.toNat
structure TS where
  o : Nat → qB
  z : Nat → Bool
  b : Int → Prop
open Classical in
def arY (n : Nat) (l : Sq qG) (t : Int) (T : TS) (x : qE) : TS :=
  if Tgt n l x ∧ T.z (rdOf l x) = false then
    ⟨fun k => if k = rdOf l x then (aqu (T.o (rdOf l x)) (atF (l.f x.Sensor.toNat) x t)).1 else T.o k, fun k => if k = rdOf l x then !(aqu (T.o (rdOf l x)) (atF (l.f x.Sensor.toNat) x t)).2 else T.z k, fun v => T.b v ∨ ((aqu (T.o (rdOf l x)) (atF (l.f x.Sensor.toNat) x t)).2 = false ∧ v = x.Sensor)⟩
  else T
def trun (F : Sq qB) (l : Sq qG) (m : Sq qE) (t : Int) : Nat → TS
  | 0 => ⟨F.f, fun _ => false, fun _ => False⟩
  | k + 1 => arY F.n l t (trun F l m t k) (m.f k)
theorem aqK {F : Sq qB} {l : Sq qG} {m : Sq qE} {t : Int} {k : Nat} (h : ¬ (Tgt F.n l (m.f k) ∧ (trun F l m t k).z (rdOf l (m.f k)) = false)) : trun F l m t (k + 1) = trun F l m t k := if_neg h
theorem aqJ {F : Sq qB} {l : Sq qG} {m : Sq qE} {t : Int} {k : Nat} {x : qE} {r : Nat} {y : qB × Bool} (hx : m.f k = x) (hr : rdOf l x = r) (hy : aqu ((trun F l m t k).o r) (atF (l.f x.Sensor.toNat) x t) = y) (h : Tgt F.n l x) (z : (trun F l m t k).z r = false) :
    trun F l m t (k + 1) = ⟨fun k' => if k' = r then y.1 else (trun F l m t k).o k', fun k' => if k' = r then !y.2 else (trun F l m t k).z k', fun v => (trun F l m t k).b v ∨ (y.2 = false ∧ v = x.Sensor)⟩ := by
  subst hx hr hy
  exact if_pos ⟨h, z⟩
theorem arE {F : Sq qB} {l : Sq qG} {m : Sq qE} {t : Int} (k : Nat) {x : qE} (h : (trun F l m t k).b x.Sensor) : (trun F l m t k).z (rdOf l x) = true := by
  induction k with
  | zero => exact h.elim
  | succ k ih =>
    by_cases c : Tgt F.n l (m.f k) ∧ (trun F l m t k).z (rdOf l (m.f k)) = false
    · have e := aqJ (F := F) (t := t) (rfl : m.f k = m.f k) rfl rfl c.1 c.2
      rw [e] at h ⊢
      dsimp only at h ⊢
      rcases h with h | ⟨h1, h2⟩
      · rw [if_neg fun q => by rw [← q, ih h] at c; cases c.2]
        exact ih h
      · have q : rdOf l x = rdOf l (m.f k) := by unfold rdOf; rw [h2]
        rw [if_pos q, h1]; rfl
    · rw [aqK c] at h ⊢; exact ih h
theorem aq7 {B : Sq Int} {w v : Int} : In ⟨B.n + 1, fun k => cond (Nat.blt k B.n) (B.f k) w⟩ v ↔ In B v ∨ v = w := by
  constructor
  · rintro ⟨j, hj, e⟩
    dsimp only at hj e
    by_cases c : j < B.n
    · rw [ajf c] at e; exact .inl ⟨j, c, e⟩
    · rw [ajl (by omega)] at e; exact .inr e.symm
  · rintro (⟨j, hj, e⟩ | e)
    · exact ⟨j, by dsimp only; omega, by dsimp only; rw [ajf hj]; exact e⟩
    · exact ⟨B.n, by dsimp only; omega, by dsimp only; rw [ajl (Nat.le_refl _)]; exact e.symm⟩
theorem arC {B : Sq Int} {w : Int} (h : Dis B) (n : ¬ In B w) : Dis ⟨B.n + 1, fun k => cond (Nat.blt k B.n) (B.f k) w⟩ := by
  intro i j hi hj e
  dsimp only at hi hj e
  by_cases c1 : i < B.n
  · by_cases c2 : j < B.n
    · rw [ajf c1, ajf c2] at e; exact h i j c1 c2 e
    · rw [ajf c1, ajl (by omega)] at e; exact absurd ⟨i, c1, e⟩ n
  · by_cases c2 : j < B.n
    · rw [ajl (by omega), ajf c2] at e; exact absurd ⟨j, c2, e.symm⟩ n
    · omega
theorem aqn (n m : Int) : ER n m = some (decide (0 ≤ n ∧ n < m)) := by
  rw [aeT]; unfold LJ
  by_cases c : (0 : Int) ≤ n
  · rw [qo (decide_eq_true c)]
    show some _ = some _
    by_cases d : n < m
    · rw [decide_eq_true d, decide_eq_true ⟨c, d⟩]
    · rw [decide_eq_false d, decide_eq_false fun q => d q.2]
  · rw [qm (decide_eq_false c), decide_eq_false fun q => c q.1]; rfl
theorem arj {n : Nat} {l : Sq qG} {x : qE} (h : Tgt n l x) : LK l x n = some true := by
  obtain ⟨h0, h1, h2, h3, h4⟩ := h
  rw [aeg]; unfold Jf
  rw [get_bind (aqn _ _), qo (decide_eq_true ⟨h0, h1⟩), qo (decide_eq_true ⟨h0, h1⟩), qo (by rw [h2]; rfl), qo (decide_eq_true ⟨h0, h1⟩), get_bind (aqn _ _), decide_eq_true (And.intro h3 h4)]; rfl
theorem aru {n : Nat} {l : Sq qG} {x : qE} (h : ¬ Tgt n l x) : LK l x n = some false := by
  rw [aeg]; unfold Jf
  rw [get_bind (aqn _ _)]
  by_cases h0 : 0 ≤ x.Sensor ∧ x.Sensor < l.n
  · rw [qo (decide_eq_true h0), qo (decide_eq_true h0)]
    by_cases h2 : (l.f x.Sensor.toNat).Kind = 3
    · rw [qo (by rw [h2]; rfl), qo (decide_eq_true h0), get_bind (aqn _ _), decide_eq_false fun q => h ⟨h0.1, h0.2, h2, q.1, q.2⟩]; rfl
    · rw [qm (by simpa using h2)]; rfl
  · rw [qm (decide_eq_false h0)]; rfl
structure TIn (F : Sq qB) (T : TS) (k : Nat) (O : Sq qB) (Z : Sq Bool) (B : Sq Int) : Prop where
  on : O.n = F.n
  oe : ∀ j, j < F.n → O.f j = T.o j
  zn : Z.n = F.n
  ze : ∀ j, j < F.n → Z.f j = T.z j
  bn : B.n ≤ k
  bd : Dis B
  bi : ∀ v, In B v ↔ T.b v
structure TgOK (F : Sq qB) (l : Sq qG) (m : Sq qE) (t : Int) (O : Sq qB) (B : Sq Int) : Prop where
  nn : O.n = F.n
  e : ∀ j, j < F.n → O.f j = (trun F l m t m.n).o j
  up : ∀ p q, p < q → q < B.n → B.f p < B.f q
  i : ∀ v, In B v ↔ (trun F l m t m.n).b v
  le : B.n ≤ m.n
theorem aqT {F : Sq qB} {l : Sq qG} {m : Sq qE} {t : Int} (hm : m.n ≤ 12) (ms : ∀ i, i < m.n → Tgt F.n l (m.f i) → MsOK (m.f i) t) :
    ∃ O Z B, Ku F l t m F ⟨F.n, fun _ => false⟩ ⟨0, fun _ => 0⟩ 0 = some (.inl (O, Z, B)) ∧ TIn F (trun F l m t m.n) m.n O Z B := by
  obtain ⟨z, hz, O, Z, B, rfl, g⟩ := pY (step := fun v : Sq qB × Sq Bool × Sq Int × Int => EP F l t m v.1 v.2.1 v.2.2.1 v.2.2.2)
    (fun v => ∃ k : Nat, v.2.2.2 = k ∧ k ≤ m.n ∧ TIn F (trun F l m t k) k v.1 v.2.1 v.2.2.1) (fun v => m.n - v.2.2.2.toNat)
    (fun z => ∃ O Z B, z = .inl (O, Z, B) ∧ TIn F (trun F l m t m.n) m.n O Z B) (fun v hv => by
      obtain ⟨O, Z, B, x⟩ := v
      obtain ⟨k, h1, hk, h⟩ := hv
      dsimp only at h1 h ⊢
      subst h1
      unfold EP
      rcases Nat.lt_or_ge k m.n with hi | hi
      · have dn : m.n - (wr ((k : Int) + 1)).toNat < m.n - (k : Int).toNat := by rw [qc (by omega)]; omega
        have nx := qc (i := k) (by omega)
        have on := h.on
        have zn := h.zn
        have bn := h.bn
        have mk := ms k hi
        have same : trun F l m t (k + 1) = trun F l m t k → TIn F (trun F l m t (k + 1)) (k + 1) O Z B := fun e => by
          rw [e]; exact ⟨h.on, h.oe, h.zn, h.ze, by omega, h.bd, h.bi⟩
        rw [qo (dlt hi), qo (dix hi), pI]
        by_cases c : Tgt F.n l (m.f k)
        · have ms' := mk c
          obtain ⟨h0, h1, h2, h3, h4⟩ := id c
          have hr : (l.f (m.f k).Sensor.toNat).Target.toNat < F.n := by omega
          have oe := h.oe _ hr
          have ze := h.ze _ hr
          rw [get_bind (arj c), qm (b := !true) rfl, qo (decide_eq_true ⟨h0, h1⟩), qo (decide_eq_true ⟨h3, by rw [zn]; exact h4⟩)]
          cases ez : Z.f (l.f (m.f k).Sensor.toNat).Target.toNat with
          | true =>
            rw [qo rfl]
            exact ⟨_, rfl, ⟨k + 1, nx, hi, same (aqK fun q => by have := q.2; unfold rdOf at this; rw [← ze, ez] at this; cases this)⟩, dn⟩
          | false =>
            have z0 : (trun F l m t k).z (l.f (m.f k).Sensor.toNat).Target.toNat = false := by rw [← ze, ez]
            rw [qm rfl, qo (decide_eq_true ⟨h3, by rw [on]; exact h4⟩), get_bind (aq6 h2 ms'), get_bind (aqZ _ _), qo (decide_eq_true ⟨h3, by rw [on]; exact h4⟩)]
            rw [oe]
            have go := fun y e => aqJ (F := F) (t := t) (y := y) (r := (l.f (m.f k).Sensor.toNat).Target.toNat) (rfl : m.f k = m.f k) rfl e c z0
            generalize ey : aqu ((trun F l m t k).o (l.f (m.f k).Sensor.toNat).Target.toNat) (atF (l.f (m.f k).Sensor.toNat) (m.f k) t) = y
            have tg := go y ey
            obtain ⟨y1, y2⟩ := y
            cases y2 with
            | false =>
              rw [qo (b := !false) rfl, qo (decide_eq_true ⟨h3, by rw [zn]; exact h4⟩), qo (decide_eq_true ⟨by omega, by omega⟩)]
              have ni : ¬ In B (m.f k).Sensor := fun q => by
                have := arE k (x := m.f k) ((h.bi _).1 q)
                unfold rdOf at this
                rw [z0] at this; cases this
              refine ⟨_, rfl, ⟨k + 1, nx, hi, ?_⟩, dn⟩
              rw [tg]
              refine ⟨on, fun j hj => ?_, zn, fun j hj => ?_, Nat.succ_le_succ bn, arC h.bd ni, fun v => ?_⟩
              · dsimp only
                by_cases q : j = (l.f (m.f k).Sensor.toNat).Target.toNat
                · rw [ajw q, if_pos q]; rfl
                · rw [ajM q, if_neg q]; exact h.oe j hj
              · dsimp only
                by_cases q : j = (l.f (m.f k).Sensor.toNat).Target.toNat
                · rw [ajw q, if_pos q]; rfl
                · rw [ajM q, if_neg q]; exact h.ze j hj
              · refine aq7.trans ?_
                rw [h.bi v]
                dsimp only
                exact ⟨fun q => q.imp id fun e => ⟨rfl, e⟩, fun q => q.imp id fun e => e.2⟩
            | true =>
              rw [qm (b := !true) rfl]
              refine ⟨_, rfl, ⟨k + 1, nx, hi, ?_⟩, dn⟩
              rw [tg]
              refine ⟨on, fun j hj => ?_, zn, fun j hj => ?_, Nat.le_trans bn (Nat.le_succ k), h.bd, fun v => ?_⟩
              · dsimp only
                by_cases q : j = (l.f (m.f k).Sensor.toNat).Target.toNat
                · rw [ajw q, if_pos q]; rfl
                · rw [ajM q, if_neg q]; exact h.oe j hj
              · dsimp only
                by_cases q : j = (l.f (m.f k).Sensor.toNat).Target.toNat
                · rw [if_pos q, q, ez]; rfl
                · rw [if_neg q]; exact h.ze j hj
              · rw [h.bi v]
                dsimp only
                exact ⟨.inl, fun q => q.elim id fun e => by cases e.1⟩
        · rw [get_bind (aru c), qo (b := !false) rfl]
          exact ⟨_, rfl, ⟨k + 1, nx, hi, same (aqK fun q => c q.1)⟩, dn⟩
      · obtain rfl : k = m.n := by omega
        rw [qm (dge (by omega))]
        exact ⟨_, rfl, _, _, _, rfl, h⟩)
    (F, ⟨F.n, fun _ => false⟩, ⟨0, fun _ => 0⟩, 0) ⟨0, rfl, Nat.zero_le _, rfl, fun _ _ => rfl, rfl, fun _ _ => rfl, Nat.le_refl _, fun _ _ h => absurd h (Nat.not_lt_zero _), fun v => ⟨fun ⟨_, q, _⟩ => absurd q (Nat.not_lt_zero _), fun q => q.elim⟩⟩
  exact ⟨O, Z, B, by rw [adF]; exact hz, g⟩
theorem aq0 (s : Sq qB) (h : s.n ≤ 1000) : K6 s = some s := by
  rw [ad9]; unfold IB
  by_cases h0 : 0 < s.n
  · rw [qo (decide_eq_true h0)]
    unfold xG
    rw [qo (decide_eq_true h0), qo (decide_eq_true ⟨by omega, by omega⟩), show (Sq.mk (0 + s.n) (fun k0 => s.f k0)) = s from by obtain ⟨n, f⟩ := s; show Sq.mk (0 + n) f = Sq.mk n f; rw [Nat.zero_add]]; rfl
  · rw [qm (decide_eq_false h0)]; rfl
theorem aqw {F : Sq qB} {l : Sq qG} {m : Sq qE} {t : Int} (hF : F.n ≤ 1000) (hm : m.n ≤ 12) (ms : ∀ i, i < m.n → Tgt F.n l (m.f i) → MsOK (m.f i) t) :
    ∃ O B, wR F l m t = some (O, B) ∧ TgOK F l m t O B := by
  obtain ⟨O, Z, B, e, h⟩ := aqT hm ms
  have bn := h.bn
  obtain ⟨r, er, hp, hu⟩ := ars B (by omega)
  rw [aeS]; unfold LH
  rw [get_bind (aq0 F hF), qo (decide_eq_true ⟨by omega, by omega, by omega, by omega⟩), pI, pV e]
  dsimp only [Sum.elim]
  rw [get_bind er]
  have rn := hp.n
  have rd := hp.d h.bd
  refine ⟨O, r, rfl, h.on, h.oe, fun p q h1 h2 => ?_, fun v => (hp.i v).trans (h.bi v), by omega⟩
  have a := hu p q h1 (by omega)
  have b : r.f p ≠ r.f q := fun e => by have := rd p q (by omega) h2 e; omega
  omega
end
end Go.Proofs.YtimkpfnbkclclaaGreat.Ab
