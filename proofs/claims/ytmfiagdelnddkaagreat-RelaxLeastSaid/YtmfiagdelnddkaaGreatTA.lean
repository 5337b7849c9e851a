/- Stage 12, maths: what Rise, Fall and Solve find. -/
import Derived.Test.YtmfiagdelnddkaaGreatXL
namespace Go.Proofs.YtmfiagdelnddkaaGreat.Ab
open Go
theorem TT (l : Sq Int) (k : Nat) : setS l k (l.f k) = l := by
  obtain ⟨n, f⟩ := l
  show Sq.mk n (fun j => cond (Nat.beq j k) (f k) (f j)) = _
  congr 1
  funext j
  by_cases c : j = k
  · rw [Ar c, c]; rfl
  · rw [Aq c]; rfl
theorem Kv.uniq {f : Int → Int} {own : Int} {r r' : Int × Bool} (h : Kv f own r) (h' : Kv f own r') : r = r' := by
  obtain ⟨v, b⟩ := r
  obtain ⟨v', b'⟩ := r'
  rcases h with ⟨e, a1, a2, a3, a4⟩ | ⟨e, a1⟩
  · rcases h' with ⟨e', b1, b2, b3, b4⟩ | ⟨e', b1⟩
    · dsimp only at *
      subst e e'
      rcases Int.lt_trichotomy v v' with c | c | c
      · have := b4 v a1 c; omega
      · rw [c]
      · have := a4 v' b1 c; omega
    · have := b1 v a1 a2
      dsimp only at a3
      omega
  · rcases h' with ⟨e', b1, b2, b3, b4⟩ | ⟨e', b1⟩
    · have := a1 v' b1 b2
      dsimp only at b3
      omega
    · rw [e, e']
theorem Kv.own {f : Int → Int} {own : Int} {r : Int × Bool} (h : Kv f own r) (o : own ≤ 70368744177664) (z : 0 ≤ f own) : r = (own, true) :=
  h.uniq (.inl ⟨rfl, Int.le_refl _, o, z, fun x a1 a2 => by dsimp only at a2; omega⟩)
theorem tV.uniq {f : Int → Int} {own : Int} {r r' : Int × Bool} (h : tV f own r) (h' : tV f own r') : r = r' := by
  obtain ⟨v, b⟩ := r
  obtain ⟨v', b'⟩ := r'
  rcases h with ⟨e, a1, a2, a3, a4⟩ | ⟨e, a1⟩
  · rcases h' with ⟨e', b1, b2, b3, b4⟩ | ⟨e', b1⟩
    · dsimp only at *
      subst e e'
      rcases Int.lt_trichotomy v v' with c | c | c
      · have := a4 v' b1 c; omega
      · rw [c]
      · have := b4 v a1 c; omega
    · have := b1 v a1 a2
      dsimp only at a3
      omega
  · rcases h' with ⟨e', b1, b2, b3, b4⟩ | ⟨e', b1⟩
    · have := a1 v' b1 b2
      dsimp only at b3
      omega
    · rw [e, e']
theorem adL {a : SAir} {s : au} {up : Bool} {l : Sq Int} : ∀ m k, k + m = a.Mine.Places.n → (∀ j, k ≤ j → j < a.Mine.Places.n → ¬ Fx a j → iQ a s up l j = (l.f j, true)) → bL a s up m k false l = some (false, l) := by
  intro m
  induction m with
  | zero => intro k _ _; rfl
  | succ m ih =>
    intro k hk h
    by_cases c : Fx a k
    · rw [pQ c]
      exact ih (k + 1) (by omega) fun j h1 h2 => h j (by omega) h2
    · have e := h k (Nat.le_refl _) (by omega) c
      rw [qX c (by rw [e]), e, TT]
      dsimp only
      rw [show (false || (l.f k != l.f k)) = false by simp]
      exact ih (k + 1) (by omega) fun j h1 h2 => h j (by omega) h2
theorem Wd {a : SAir} {s : au} {up : Bool} {l : Sq Int} (r : Nat) (h : ∀ j, j < a.Mine.Places.n → ¬ Fx a j → iQ a s up l j = (l.f j, true)) : bW a s up (r + 1) l = some l := by
  show (bL a s up a.Mine.Places.n 0 false l).bind _ = _
  rw [adL a.Mine.Places.n 0 (by omega) fun j _ => h j]; rfl
structure Sup (a : SAir) (s : au) (S : Sq Int) : Prop where
  p : bQ a S
  u : ∀ k, k < a.Mine.Places.n → ¬ Fx a k → 0 ≤ NL a s S k (S.f k)
structure ajB (a : SAir) (s : au) (l : Sq Int) (y : Bool × Sq Int) : Prop where
  p : bQ a y.2
  ge : ∀ j, l.f j ≤ y.2.f j
  fx : ∀ j, Fx a j → y.2.f j = l.f j
  st : y.1 = false → y.2 = l ∧ ∀ k, k < a.Mine.Places.n → ¬ Fx a k → 0 ≤ NL a s l k (l.f k)
  le : ∀ S, Sup a s S → (∀ j, l.f j ≤ S.f j) → ∀ j, y.2.f j ≤ S.f j
theorem adN {a : SAir} {s : au} (rt : aZ a s = true) {l : Sq Int} (hl : bQ a l) {y : Bool × Sq Int} (e : bL a s true a.Mine.Places.n 0 false l = some y) : ajB a s l y := by
  have ok := aW rt
  obtain ⟨p, i⟩ := FB rt (fun k ch l' => (∀ j, l.f j ≤ l'.f j) ∧ (∀ j, Fx a j → l'.f j = l.f j) ∧ (ch = false → l' = l ∧ ∀ j, j < k → ¬ Fx a j → 0 ≤ NL a s l j (l.f j)) ∧ ∀ S, Sup a s S → (∀ j, l.f j ≤ S.f j) → ∀ j, l'.f j ≤ S.f j)
    (fun k ch l' hk hl' ⟨h1, h2, h3, h4⟩ => ⟨fun c => ⟨h1, h2, fun e => ⟨(h3 e).1, fun j hj nf => by
        by_cases q : j = k
        · rw [q] at nf; exact absurd c nf
        · exact (h3 e).2 j (by omega) nf⟩, h4⟩, fun nf e => by
      have pr : PrOK a s l' k := ⟨rt, hl', by omega, by have := hl'.n; omega⟩
      rcases (tL pr).2 with ⟨_, a1, a2, a3, a4⟩ | ⟨a1, _⟩
      · generalize iQ a s true l' k = r at e a1 a2 a3 a4
        refine ⟨fun j => ?_, fun j fj => ?_, fun ec => ?_, fun S hS hle j => ?_⟩
        · by_cases q : j = k
          · rw [q, CU]; exact Int.le_trans (h1 k) a1
          · rw [om l' _ q]; exact h1 j
        · by_cases q : j = k
          · rw [q] at fj; exact absurd fj nf
          · rw [om l' _ q]; exact h2 j fj
        · obtain ⟨c1, c2⟩ := Bool.or_eq_false_iff.1 ec
          have ev : r.1 = l'.f k := by simpa using c2
          obtain ⟨g1, g2⟩ := h3 c1
          rw [ev, TT]
          refine ⟨g1, fun j hj nj => ?_⟩
          by_cases q : j = k
          · rw [q, ← g1]
            rw [ev] at a3
            exact a3
          · exact g2 j (by omega) nj
        · by_cases q : j = k
          · rw [q, CU]
            have sk := h4 S hS hle k
            have su := hS.u k hk nf
            have an := (akx ok (k : Int) (S.f k) (h4 S hS hle)).1
            rcases Int.lt_or_le (S.f k) r.1 with c | c
            · have := a4 (S.f k) sk c; omega
            · exact c
          · rw [om l' _ q]; exact h4 S hS hle j
      · rw [a1] at e; cases e⟩)
    a.Mine.Places.n 0 false l (by omega) hl ⟨fun _ => Int.le_refl _, fun _ _ => rfl, fun _ => ⟨rfl, fun j hj => absurd hj (Nat.not_lt_zero _)⟩, fun S _ h => h⟩ y e
  obtain ⟨i1, i2, i3, i4⟩ := i
  exact ⟨p, i1, i2, i3, i4⟩
structure ajA (a : SAir) (s : au) (l : Sq Int) (y : Bool × Sq Int) : Prop where
  p : bQ a y.2
  le : ∀ j, y.2.f j ≤ l.f j
  fx : ∀ j, Fx a j → y.2.f j = l.f j
  st : y.1 = false → y.2 = l ∧ ∀ k, k < a.Mine.Places.n → ¬ Fx a k → NH a s l k (l.f k) ≤ 0
theorem adM {a : SAir} {s : au} (rt : aZ a s = true) {l : Sq Int} (hl : bQ a l) {y : Bool × Sq Int} (e : bL a s false a.Mine.Places.n 0 false l = some y) : ajA a s l y := by
  obtain ⟨p, i⟩ := FB rt (fun k ch l' => (∀ j, l'.f j ≤ l.f j) ∧ (∀ j, Fx a j → l'.f j = l.f j) ∧ (ch = false → l' = l ∧ ∀ j, j < k → ¬ Fx a j → NH a s l j (l.f j) ≤ 0))
    (fun k ch l' hk hl' ⟨h1, h2, h3⟩ => ⟨fun c => ⟨h1, h2, fun e => ⟨(h3 e).1, fun j hj nf => by
        by_cases q : j = k
        · rw [q] at nf; exact absurd c nf
        · exact (h3 e).2 j (by omega) nf⟩⟩, fun nf e => by
      have pr : PrOK a s l' k := ⟨rt, hl', by omega, by have := hl'.n; omega⟩
      rcases (mI pr).2 with ⟨_, a1, a2, a3, a4⟩ | ⟨a1, _⟩
      · generalize iQ a s false l' k = r at e a1 a2 a3 a4
        refine ⟨fun j => ?_, fun j fj => ?_, fun ec => ?_⟩
        · by_cases q : j = k
          · rw [q, CU]; exact Int.le_trans a1 (h1 k)
          · rw [om l' _ q]; exact h1 j
        · by_cases q : j = k
          · rw [q] at fj; exact absurd fj nf
          · rw [om l' _ q]; exact h2 j fj
        · obtain ⟨c1, c2⟩ := Bool.or_eq_false_iff.1 ec
          have ev : r.1 = l'.f k := by simpa using c2
          obtain ⟨g1, g2⟩ := h3 c1
          rw [ev, TT]
          refine ⟨g1, fun j hj nj => ?_⟩
          by_cases q : j = k
          · rw [q, ← g1]
            rw [ev] at a3
            exact a3
          · exact g2 j (by omega) nj
      · rw [a1] at e; cases e⟩)
    a.Mine.Places.n 0 false l (by omega) hl ⟨fun _ => Int.le_refl _, fun _ _ => rfl, fun _ => ⟨rfl, fun j hj => absurd hj (Nat.not_lt_zero _)⟩⟩ y e
  obtain ⟨i1, i2, i3⟩ := i
  exact ⟨p, i1, i2, i3⟩
structure akA (a : SAir) (s : au) (st p : Sq Int) : Prop where
  sup : Sup a s p
  ge : ∀ j, st.f j ≤ p.f j
  fx : ∀ j, Fx a j → p.f j = st.f j
  le : ∀ S, Sup a s S → (∀ j, st.f j ≤ S.f j) → ∀ j, p.f j ≤ S.f j
theorem wI {a : SAir} {s : au} {st p : Sq Int} (e : aS a s st true = (p, 0)) : akA a s st p := by
  obtain ⟨h1, h2⟩ := TP (a := a) (s := s) (st := st) (up := true) (by rw [e])
  obtain ⟨rt, hl, _⟩ := nT h1
  rw [e] at h2
  obtain ⟨pp, r, hr, ⟨j1, j2, j3⟩, l', pl, _, el⟩ := Nu (a := a) (s := s) (up := true) (fun _ l => (∀ j, st.f j ≤ l.f j) ∧ (∀ j, Fx a j → l.f j = st.f j) ∧ ∀ S, Sup a s S → (∀ j, st.f j ≤ S.f j) → ∀ j, l.f j ≤ S.f j) (fun r l hl hj y e => by
    have q := adN rt hl e
    obtain ⟨j1, j2, j3⟩ := hj
    exact ⟨q.p, fun j => Int.le_trans (j1 j) (q.ge j), fun j fj => (q.fx j fj).trans (j2 j fj), fun S hS h => q.le S hS (j3 S hS h)⟩) 200 st hl ⟨fun _ => Int.le_refl _, fun _ _ => rfl, fun S _ h => h⟩ _ h2
  have q := adN rt pl el
  obtain ⟨g1, g2⟩ := q.st rfl
  dsimp only at g1 j1 j2 j3 pp
  subst g1
  exact ⟨⟨pp, g2⟩, j1, j2, j3⟩
structure aks (a : SAir) (s : au) (st p : Sq Int) : Prop where
  pr : bQ a p
  u : ∀ k, k < a.Mine.Places.n → ¬ Fx a k → NH a s p k (p.f k) ≤ 0
  le : ∀ j, p.f j ≤ st.f j
  fx : ∀ j, Fx a j → p.f j = st.f j
theorem JZ {a : SAir} {s : au} {st p : Sq Int} (e : aS a s st false = (p, 0)) : aks a s st p := by
  obtain ⟨h1, h2⟩ := TP (a := a) (s := s) (st := st) (up := false) (by rw [e])
  obtain ⟨rt, hl, _⟩ := nT h1
  rw [e] at h2
  obtain ⟨pp, r, hr, ⟨j1, j2⟩, l', pl, _, el⟩ := Nu (a := a) (s := s) (up := false) (fun _ l => (∀ j, l.f j ≤ st.f j) ∧ (∀ j, Fx a j → l.f j = st.f j)) (fun r l hl hj y e => by
    have q := adM rt hl e
    obtain ⟨j1, j2⟩ := hj
    exact ⟨q.p, fun j => Int.le_trans (q.le j) (j1 j), fun j fj => (q.fx j fj).trans (j2 j fj)⟩) 200 st hl ⟨fun _ => Int.le_refl _, fun _ _ => rfl⟩ _ h2
  have q := adM rt pl el
  obtain ⟨g1, g2⟩ := q.st rfl
  dsimp only at g1 j1 j2 pp
  subst g1
  exact ⟨pp, g2, j1, j2⟩
theorem zf {a : SAir} {s : au} {st : Sq Int} {up : Bool} (h : dR a s st = 0) : (aS a s st up).2 = 0 ∨ aS a s st up = (nilS, 2) := by
  cases e : bW a s up 200 st with
  | none => exact .inr (bX h e)
  | some l => rw [d9 h e]; exact .inl rfl
theorem adJ {a : SAir} {s : au} (rt : aZ a s = true) {p : Sq Int} (h : Sup a s p) (z : ∀ i, i < a.Mine.Places.n → Fx a i → p.f i = 0) : aS a s p true = (p, 0) := by
  refine d9 (wU rt h.p z) (Wd 199 fun j hj nf => ?_)
  have pr : PrOK a s p j := ⟨rt, h.p, by omega, by have := h.p.n; omega⟩
  exact (tL pr).2.own (h.p.f j (by have := h.p.n; omega)).2 (h.u j hj nf)
theorem af3 {a : SAir} {s : au} {st p mid : Sq Int} (e : aS a s st true = (p, 0)) (h1 : ∀ j, st.f j ≤ mid.f j) (h2 : ∀ j, mid.f j ≤ p.f j) {q : Sq Int} (e2 : aS a s mid true = (q, 0)) : ∀ j, q.f j = p.f j := by
  have P := wI e
  have Q := wI e2
  intro j
  have a1 := P.le q Q.sup (fun j => Int.le_trans (h1 j) (Q.ge j)) j
  have a2 := Q.le p P.sup h2 j
  omega
theorem Zl {a : SAir} {s : au} (h : (gZ a s).2 = 0) : FY a s (gZ a s).1 = 0 ∧ ∀ j, (gZ a s).1.Low.f j ≤ (gZ a s).1.High.f j := by
  obtain ⟨below, e1, e2, e3⟩ := adT h
  have F1 := JZ e1
  have R := wI e2
  have F2 := JZ e3
  have rt := (nT (TP (a := a) (s := s) (st := below) (up := true) (by rw [e2])).1).1
  have z1 : ∀ i, Fx a i → (gZ a s).1.High.f i = 0 := fun i fi => (R.fx i fi).trans (F1.fx i fi)
  refine ⟨ae6 rt F2.pr.n R.sup.p.n F2.pr.f R.sup.p.f fun i hi => ⟨fun f => ⟨(F2.fx i f).trans (z1 i f), z1 i f⟩, fun n => ⟨R.sup.u i hi n, F2.u i hi n⟩⟩, F2.le⟩
theorem Zn {a : SAir} {s : au} (rt : aZ a s = true) : dR a s (xu a.Mine.Places.n) = 0 :=
  wU rt ⟨rfl, fun k _ => by show (-70368744177664 : Int) ≤ 0 ∧ (0 : Int) ≤ _; omega⟩ fun _ _ _ => rfl
theorem Zm {a : SAir} {s : au} (rt : aZ a s = true) : (gZ a s).2 = 0 ∨ (gZ a s) = (⟨nilS, nilS⟩, 2) := by
  rcases zf (s := s) (up := false) (Zn rt) with c1 | c1
  · have e1 : aS a s (xu a.Mine.Places.n) false = ((aS a s (xu a.Mine.Places.n) false).1, 0) := Prod.ext rfl c1
    have F1 := JZ e1
    have st1 : dR a s (aS a s (xu a.Mine.Places.n) false).1 = 0 := wU rt F1.pr fun i _ fi => F1.fx i fi
    rcases zf (s := s) (up := true) st1 with c2 | c2
    · have e2 : aS a s (aS a s (xu a.Mine.Places.n) false).1 true = ((aS a s (aS a s (xu a.Mine.Places.n) false).1 true).1, 0) := Prod.ext rfl c2
      have R := wI e2
      have st2 : dR a s (aS a s (aS a s (xu a.Mine.Places.n) false).1 true).1 = 0 := wU rt R.sup.p fun i _ fi => (R.fx i fi).trans (F1.fx i fi)
      rcases zf (s := s) (up := false) st2 with c3 | c3
      · left
        unfold gZ
        rw [if_neg (not_not_intro c1), if_neg (not_not_intro c2), if_neg (not_not_intro c3)]
      · right
        unfold gZ
        rw [if_neg (not_not_intro c1), if_neg (not_not_intro c2), if_pos (by rw [c3]; decide), c3]
    · right
      unfold gZ
      rw [if_neg (not_not_intro c1), if_pos (by rw [c2]; decide), c2]
  · right
    unfold gZ
    rw [if_pos (by rw [c1]; decide), c1]
end Go.Proofs.YtmfiagdelnddkaaGreat.Ab
