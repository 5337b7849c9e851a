/- A part of the proof, what is needed of it. -/
import Derived.Test.YtimkpfnbkclclaaGreatPj27
namespace Go.Proofs.YtimkpfnbkclclaaGreat.Ab
open Go
theorem akH (l : Sq Int) (k : Nat) : setS l k (l.f k) = l := by
  obtain ⟨n, f⟩ := l
  show Sq.mk n (fun j => cond (Nat.beq j k) (f k) (f j)) = _
  congr 1
  funext j
  by_cases c : j = k
  · rw [ajw c, c]; rfl
  · rw [ajM c]; rfl
theorem ajL.uniq {f : Int → Int} {own : Int} {r r' : Int × Bool} (h : ajL f own r) (h' : ajL f own r') : r = r' := by
  obtain ⟨v, b⟩ := r
  obtain ⟨v', b'⟩ := r'
  rcases h with ⟨e, a1, a2, a3, a4⟩ | ⟨e, a1⟩
  · rcases h' with ⟨e', b1, b2, b3, b4⟩ | ⟨e', b1⟩
    · dsimp only at *
      subst e e'
      rcases Int.lt_trichotomy v v' with c | c | c
      · have := b4 v a1 c; omega
      · rw [c]
      · have := a4 v' b1 c; omega
    · have := b1 v a1 a2
      dsimp only at a3
      omega
  · rcases h' with ⟨e', b1, b2, b3, b4⟩ | ⟨e', b1⟩
    · have := a1 v' b1 b2
      dsimp only at b3
      omega
    · rw [e, e']
theorem ajL.own {f : Int → Int} {own : Int} {r : Int × Bool} (h : ajL f own r) (o : own ≤ 70368744177664) (z : 0 ≤ f own) : r = (own, true) :=
  h.uniq (.inl ⟨rfl, Int.le_refl _, o, z, fun x a1 a2 => by dsimp only at a2; omega⟩)
theorem ai5.uniq {f : Int → Int} {own : Int} {r r' : Int × Bool} (h : ai5 f own r) (h' : ai5 f own r') : r = r' := by
  obtain ⟨v, b⟩ := r
  obtain ⟨v', b'⟩ := r'
  rcases h with ⟨e, a1, a2, a3, a4⟩ | ⟨e, a1⟩
  · rcases h' with ⟨e', b1, b2, b3, b4⟩ | ⟨e', b1⟩
    · dsimp only at *
      subst e e'
      rcases Int.lt_trichotomy v v' with c | c | c
      · have := a4 v' b1 c; omega
      · rw [c]
      · have := b4 v a1 c; omega
    · have := b1 v a1 a2
      dsimp only at a3
      omega
  · rcases h' with ⟨e', b1, b2, b3, b4⟩ | ⟨e', b1⟩
    · have := a1 v' b1 b2
      dsimp only at b3
      omega
    · rw [e, e']
theorem amA {a : SAir} {s : qz} {up : Bool} {l : Sq Int} : ∀ m k, k + m = a.Mine.Places.n → (∀ j, k ≤ j → j < a.Mine.Places.n → ¬ Fx a j → aiZ a s up l j = (l.f j, true)) → aiW a s up m k false l = some (false, l) := by
  intro m
  induction m with
  | zero => intro k _ _; rfl
  | succ m ih =>
    intro k hk h
    by_cases c : Fx a k
    · rw [ajC c]
      exact ih (k + 1) (by omega) fun j h1 h2 => h j (by omega) h2
    · have e := h k (Nat.le_refl _) (by omega) c
      rw [ajD c (by rw [e]), e, akH]
      dsimp only
      rw [show (false || (l.f k != l.f k)) = false by simp]
      exact ih (k + 1) (by omega) fun j h1 h2 => h j (by omega) h2
theorem akY {a : SAir} {s : qz} {up : Bool} {l : Sq Int} (r : Nat) (h : ∀ j, j < a.Mine.Places.n → ¬ Fx a j → aiZ a s up l j = (l.f j, true)) : ai1 a s up (r + 1) l = some l := by
  show (aiW a s up a.Mine.Places.n 0 false l).bind _ = _
  rw [amA a.Mine.Places.n 0 (by omega) fun j _ => h j]; rfl
structure Sup (a : SAir) (s : qz) (S : Sq Int) : Prop where
  p : aiV a S
  u : ∀ k, k < a.Mine.Places.n → ¬ Fx a k → 0 ≤ NL a s S k (S.f k)
structure ao9 (a : SAir) (s : qz) (l : Sq Int) (y : Bool × Sq Int) : Prop where
  p : aiV a y.2
  ge : ∀ j, l.f j ≤ y.2.f j
  fx : ∀ j, Fx a j → y.2.f j = l.f j
  st : y.1 = false → y.2 = l ∧ ∀ k, k < a.Mine.Places.n → ¬ Fx a k → 0 ≤ NL a s l k (l.f k)
  le : ∀ S, Sup a s S → (∀ j, l.f j ≤ S.f j) → ∀ j, y.2.f j ≤ S.f j
theorem amD {a : SAir} {s : qz} (rt : aiR a s = true) {l : Sq Int} (hl : aiV a l) {y : Bool × Sq Int} (e : aiW a s true a.Mine.Places.n 0 false l = some y) : ao9 a s l y := by
  have ok := aiU rt
  obtain ⟨p, i⟩ := ajU rt (fun k ch l' => (∀ j, l.f j ≤ l'.f j) ∧ (∀ j, Fx a j → l'.f j = l.f j) ∧ (ch = false → l' = l ∧ ∀ j, j < k → ¬ Fx a j → 0 ≤ NL a s l j (l.f j)) ∧ ∀ S, Sup a s S → (∀ j, l.f j ≤ S.f j) → ∀ j, l'.f j ≤ S.f j)
    (fun k ch l' hk hl' ⟨h1, h2, h3, h4⟩ => ⟨fun c => ⟨h1, h2, fun e => ⟨(h3 e).1, fun j hj nf => by
        by_cases q : j = k
        · rw [q] at nf; exact absurd c nf
        · exact (h3 e).2 j (by omega) nf⟩, h4⟩, fun nf e => by
      have pr : PrOK a s l' k := ⟨rt, hl', by omega, by have := hl'.n; omega⟩
      rcases (ajx pr).2 with ⟨_, a1, a2, a3, a4⟩ | ⟨a1, _⟩
      · generalize aiZ a s true l' k = r at e a1 a2 a3 a4
        refine ⟨fun j => ?_, fun j fj => ?_, fun ec => ?_, fun S hS hle j => ?_⟩
        · by_cases q : j = k
          · rw [q, akG]; exact Int.le_trans (h1 k) a1
          · rw [ajj l' _ q]; exact h1 j
        · by_cases q : j = k
          · rw [q] at fj; exact absurd fj nf
          · rw [ajj l' _ q]; exact h2 j fj
        · obtain ⟨c1, c2⟩ := Bool.or_eq_false_iff.1 ec
          have ev : r.1 = l'.f k := by simpa using c2
          obtain ⟨g1, g2⟩ := h3 c1
          rw [ev, akH]
          refine ⟨g1, fun j hj nj => ?_⟩
          by_cases q : j = k
          · rw [q, ← g1]
            rw [ev] at a3
            exact a3
          · exact g2 j (by omega) nj
        · by_cases q : j = k
          · rw [q, akG]
            have sk := h4 S hS hle k
            have su := hS.u k hk nf
            have an := (apK ok (k : Int) (S.f k) (h4 S hS hle)).1
            rcases Int.lt_or_le (S.f k) r.1 with c | c
            · have := a4 (S.f k) sk c; omega
            · exact c
          · rw [ajj l' _ q]; exact h4 S hS hle j
      · rw [a1] at e; cases e⟩)
    a.Mine.Places.n 0 false l (by omega) hl ⟨fun _ => Int.le_refl _, fun _ _ => rfl, fun _ => ⟨rfl, fun j hj => absurd hj (Nat.not_lt_zero _)⟩, fun S _ h => h⟩ y e
  obtain ⟨i1, i2, i3, i4⟩ := i
  exact ⟨p, i1, i2, i3, i4⟩
structure ao8 (a : SAir) (s : qz) (l : Sq Int) (y : Bool × Sq Int) : Prop where
  p : aiV a y.2
  le : ∀ j, y.2.f j ≤ l.f j
  fx : ∀ j, Fx a j → y.2.f j = l.f j
  st : y.1 = false → y.2 = l ∧ ∀ k, k < a.Mine.Places.n → ¬ Fx a k → NH a s l k (l.f k) ≤ 0
theorem amB {a : SAir} {s : qz} (rt : aiR a s = true) {l : Sq Int} (hl : aiV a l) {y : Bool × Sq Int} (e : aiW a s false a.Mine.Places.n 0 false l = some y) : ao8 a s l y := by
  obtain ⟨p, i⟩ := ajU rt (fun k ch l' => (∀ j, l'.f j ≤ l.f j) ∧ (∀ j, Fx a j → l'.f j = l.f j) ∧ (ch = false → l' = l ∧ ∀ j, j < k → ¬ Fx a j → NH a s l j (l.f j) ≤ 0))
    (fun k ch l' hk hl' ⟨h1, h2, h3⟩ => ⟨fun c => ⟨h1, h2, fun e => ⟨(h3 e).1, fun j hj nf => by
        by_cases q : j = k
        · rw [q] at nf; exact absurd c nf
        · exact (h3 e).2 j (by omega) nf⟩⟩, fun nf e => by
      have pr : PrOK a s l' k := ⟨rt, hl', by omega, by have := hl'.n; omega⟩
      rcases (ajr pr).2 with ⟨_, a1, a2, a3, a4⟩ | ⟨a1, _⟩
      · generalize aiZ a s false l' k = r at e a1 a2 a3 a4
        refine ⟨fun j => ?_, fun j fj => ?_, fun ec => ?_⟩
        · by_cases q : j = k
          · rw [q, akG]; exact Int.le_trans a1 (h1 k)
          · rw [ajj l' _ q]; exact h1 j
        · by_cases q : j = k
          · rw [q] at fj; exact absurd fj nf
          · rw [ajj l' _ q]; exact h2 j fj
        · obtain ⟨c1, c2⟩ := Bool.or_eq_false_iff.1 ec
          have ev : r.1 = l'.f k := by simpa using c2
          obtain ⟨g1, g2⟩ := h3 c1
          rw [ev, akH]
          refine ⟨g1, fun j hj nj => ?_⟩
          by_cases q : j = k
          · rw [q, ← g1]
            rw [ev] at a3
            exact a3
          · exact g2 j (by omega) nj
      · rw [a1] at e; cases e⟩)
    a.Mine.Places.n 0 false l (by omega) hl ⟨fun _ => Int.le_refl _, fun _ _ => rfl, fun _ => ⟨rfl, fun j hj => absurd hj (Nat.not_lt_zero _)⟩⟩ y e
  obtain ⟨i1, i2, i3⟩ := i
  exact ⟨p, i1, i2, i3⟩
structure apL (a : SAir) (s : qz) (st p : Sq Int) : Prop where
  sup : Sup a s p
  ge : ∀ j, st.f j ≤ p.f j
  fx : ∀ j, Fx a j → p.f j = st.f j
  le : ∀ S, Sup a s S → (∀ j, st.f j ≤ S.f j) → ∀ j, p.f j ≤ S.f j
theorem ajK {a : SAir} {s : qz} {st p : Sq Int} (e : aiP a s st true = (p, 0)) : apL a s st p := by
  obtain ⟨h1, h2⟩ := akC (a := a) (s := s) (st := st) (up := true) (by rw [e])
  obtain ⟨rt, hl, _⟩ := ajv h1
  rw [e] at h2
  obtain ⟨pp, r, hr, ⟨j1, j2, j3⟩, l', pl, _, el⟩ := ajS (a := a) (s := s) (up := true) (fun _ l => (∀ j, st.f j ≤ l.f j) ∧ (∀ j, Fx a j → l.f j = st.f j) ∧ ∀ S, Sup a s S → (∀ j, st.f j ≤ S.f j) → ∀ j, l.f j ≤ S.f j) (fun r l hl hj y e => by
    have q := amD rt hl e
    obtain ⟨j1, j2, j3⟩ := hj
    exact ⟨q.p, fun j => Int.le_trans (j1 j) (q.ge j), fun j fj => (q.fx j fj).trans (j2 j fj), fun S hS h => q.le S hS (j3 S hS h)⟩) 200 st hl ⟨fun _ => Int.le_refl _, fun _ _ => rfl, fun S _ h => h⟩ _ h2
  have q := amD rt pl el
  obtain ⟨g1, g2⟩ := q.st rfl
  dsimp only at g1 j1 j2 j3 pp
  subst g1
  exact ⟨⟨pp, g2⟩, j1, j2, j3⟩
structure apI (a : SAir) (s : qz) (st p : Sq Int) : Prop where
  pr : aiV a p
  u : ∀ k, k < a.Mine.Places.n → ¬ Fx a k → NH a s p k (p.f k) ≤ 0
  le : ∀ j, p.f j ≤ st.f j
  fx : ∀ j, Fx a j → p.f j = st.f j
theorem aki {a : SAir} {s : qz} {st p : Sq Int} (e : aiP a s st false = (p, 0)) : apI a s st p := by
  obtain ⟨h1, h2⟩ := akC (a := a) (s := s) (st := st) (up := false) (by rw [e])
  obtain ⟨rt, hl, _⟩ := ajv h1
  rw [e] at h2
  obtain ⟨pp, r, hr, ⟨j1, j2⟩, l', pl, _, el⟩ := ajS (a := a) (s := s) (up := false) (fun _ l => (∀ j, l.f j ≤ st.f j) ∧ (∀ j, Fx a j → l.f j = st.f j)) (fun r l hl hj y e => by
    have q := amB rt hl e
    obtain ⟨j1, j2⟩ := hj
    exact ⟨q.p, fun j => Int.le_trans (q.le j) (j1 j), fun j fj => (q.fx j fj).trans (j2 j fj)⟩) 200 st hl ⟨fun _ => Int.le_refl _, fun _ _ => rfl⟩ _ h2
  have q := amB rt pl el
  obtain ⟨g1, g2⟩ := q.st rfl
  dsimp only at g1 j1 j2 pp
  subst g1
  exact ⟨pp, g2, j1, j2⟩
theorem akh {a : SAir} {s : qz} {st : Sq Int} {up : Bool} (h : aiY a s st = 0) : (aiP a s st up).2 = 0 ∨ aiP a s st up = (nilS, 2) := by
  cases e : ai1 a s up 200 st with
  | none => exact .inr (ai9 h e)
  | some l => rw [ai4 h e]; exact .inl rfl
theorem aoj {a : SAir} {s : qz} (h : (ai6 a s).2 = 0) : aje a s (ai6 a s).1 = 0 ∧ ∀ j, (ai6 a s).1.Low.f j ≤ (ai6 a s).1.High.f j := by
  obtain ⟨below, e1, e2, e3⟩ := amF h
  have F1 := aki e1
  have R := ajK e2
  have F2 := aki e3
  have rt := (ajv (akC (a := a) (s := s) (st := below) (up := true) (by rw [e2])).1).1
  have z1 : ∀ i, Fx a i → (ai6 a s).1.High.f i = 0 := fun i fi => (R.fx i fi).trans (F1.fx i fi)
  refine ⟨ana rt F2.pr.n R.sup.p.n F2.pr.f R.sup.p.f fun i hi => ⟨fun f => ⟨(F2.fx i f).trans (z1 i f), z1 i f⟩, fun n => ⟨R.sup.u i hi n, F2.u i hi n⟩⟩, F2.le⟩
theorem am4 {a : SAir} {s : qz} (rt : aiR a s = true) : aiY a s (ajb a.Mine.Places.n) = 0 :=
  ajX rt ⟨rfl, fun k _ => by show (-70368744177664 : Int) ≤ 0 ∧ (0 : Int) ≤ _; omega⟩ fun _ _ _ => rfl
theorem apx {a : SAir} {s : qz} (rt : aiR a s = true) : (ai6 a s).2 = 0 ∨ (ai6 a s) = (⟨nilS, nilS⟩, 2) := by
  rcases akh (s := s) (up := false) (am4 rt) with c1 | c1
  · have e1 : aiP a s (ajb a.Mine.Places.n) false = ((aiP a s (ajb a.Mine.Places.n) false).1, 0) := Prod.ext rfl c1
    have F1 := aki e1
    have st1 : aiY a s (aiP a s (ajb a.Mine.Places.n) false).1 = 0 := ajX rt F1.pr fun i _ fi => F1.fx i fi
    rcases akh (s := s) (up := true) st1 with c2 | c2
    · have e2 : aiP a s (aiP a s (ajb a.Mine.Places.n) false).1 true = ((aiP a s (aiP a s (ajb a.Mine.Places.n) false).1 true).1, 0) := Prod.ext rfl c2
      have R := ajK e2
      have st2 : aiY a s (aiP a s (aiP a s (ajb a.Mine.Places.n) false).1 true).1 = 0 := ajX rt R.sup.p fun i _ fi => (R.fx i fi).trans (F1.fx i fi)
      rcases akh (s := s) (up := false) st2 with c3 | c3
      · left
        unfold ai6
        rw [if_neg (not_not_intro c1), if_neg (not_not_intro c2), if_neg (not_not_intro c3)]
      · right
        unfold ai6
        rw [if_neg (not_not_intro c1), if_neg (not_not_intro c2), if_pos (by rw [c3]; decide), c3]
    · right
      unfold ai6
      rw [if_neg (not_not_intro c1), if_pos (by rw [c2]; decide), c2]
  · right
    unfold ai6
    rw [if_pos (by rw [c1]; decide), c1]
end Go.Proofs.YtimkpfnbkclclaaGreat.Ab
