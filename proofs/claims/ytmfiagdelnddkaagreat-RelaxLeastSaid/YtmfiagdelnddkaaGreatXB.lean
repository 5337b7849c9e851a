/- Stage 10: a place with the roads around it. -/
import Derived.Test.YtmfiagdelnddkaaGreatXA
namespace Go.Proofs.YtmfiagdelnddkaaGreat.Ab
open Go
def adj (r : aB) (pl : Int) : Prop := r.From = pl ∨ r.To = pl
instance (r : aB) (pl : Int) : Decidable (adj r pl) := inferInstanceAs (Decidable (_ ∨ _))
structure GQ (R : Sq aB) (pl : Int) (k : Nat) (l : Sq Int) : Prop where
  n : l.n ≤ k
  f : ∀ j, j < l.n → 0 ≤ l.f j ∧ l.f j < k ∧ adj (R.f (l.f j).toNat) pl
  up : ∀ j j', j < j' → j' < l.n → l.f j < l.f j'
  s : ∀ g : Nat → Int, sumN (fun j => g (l.f j).toNat) l.n = sumN (fun i => if adj (R.f i) pl then g i else 0) k
  c : ∀ i, i < k → adj (R.f i) pl → ∃ j, j < l.n ∧ l.f j = i
theorem GQ.inj {R : Sq aB} {pl : Int} {k : Nat} {l : Sq Int} (h : GQ R pl k l) {j j' : Nat} (hj : j < l.n) (hj' : j' < l.n) (e : l.f j = l.f j') : j = j' := by
  rcases Nat.lt_trichotomy j j' with c | c | c
  · have := h.up j j' c hj'; omega
  · exact c
  · have := h.up j' j c hj; omega
theorem GQ.add {R : Sq aB} {pl : Int} {k : Nat} {l l' : Sq Int} (h : GQ R pl k l) (hk : adj (R.f k) pl) (hn : l'.n = l.n + 1) (hf : ∀ j, l'.f j = if j < l.n then l.f j else (k : Int)) : GQ R pl (k + 1) l' := by
  have n0 := h.n
  have e1 : ∀ j, j < l.n → l'.f j = l.f j := fun j hj => by rw [hf, if_pos hj]
  have e2 : l'.f l.n = k := by rw [hf, if_neg (by omega)]
  refine ⟨by omega, fun j hj => ?_, fun j j' h1 h2 => ?_, fun g => ?_, fun i hi ha => ?_⟩
  · by_cases c : j < l.n
    · rw [e1 j c]; have := h.f j c; exact ⟨this.1, by omega, this.2.2⟩
    · obtain rfl : j = l.n := by omega
      rw [e2]; exact ⟨by omega, by omega, hk⟩
  · by_cases c : j' < l.n
    · rw [e1 j (by omega), e1 j' c]; exact h.up j j' h1 c
    · obtain rfl : j' = l.n := by omega
      rw [e1 j h1, e2]; have := h.f j h1; omega
  · rw [hn]
    show sumN (fun j => g (l'.f j).toNat) l.n + g (l'.f l.n).toNat = sumN (fun i => if adj (R.f i) pl then g i else 0) k + (if adj (R.f k) pl then g k else 0)
    rw [e2, if_pos hk, ← h.s g, jo (g := fun j => g (l'.f j).toNat) (g' := fun j => g (l.f j).toNat) fun j hj => congrArg (fun z : Int => g z.toNat) (e1 j hj)]
    rfl
  · by_cases c : i < k
    · obtain ⟨j, h1, h2⟩ := h.c i c ha
      exact ⟨j, by omega, by rw [e1 j h1]; exact h2⟩
    · obtain rfl : i = k := by omega
      exact ⟨l.n, by omega, e2⟩
theorem GQ.skip {R : Sq aB} {pl : Int} {k : Nat} {l : Sq Int} (h : GQ R pl k l) (hk : ¬ adj (R.f k) pl) : GQ R pl (k + 1) l := by
  have n0 := h.n
  refine ⟨by omega, fun j hj => by have := h.f j hj; exact ⟨this.1, by omega, this.2.2⟩, h.up, fun g => ?_, fun i hi ha => ?_⟩
  · show _ = sumN (fun i => if adj (R.f i) pl then g i else 0) k + (if adj (R.f k) pl then g k else 0)
    rw [if_neg hk, ← h.s g, Int.add_zero]
  · by_cases c : i < k
    · exact h.c i c ha
    · obtain rfl : i = k := by omega
      exact absurd ha hk
theorem SK {m : aL} (hm : m.Roads.n ≤ 128) (pl : Int) : ∃ l, Oa m pl = some l ∧ GQ m.Roads pl m.Roads.n l := by
  have key := bH (step := fun v : Sq Int × Int => vo pl m.Roads v.1 v.2)
    (fun v => ∃ i : Nat, v.2 = i ∧ i ≤ m.Roads.n ∧ GQ m.Roads pl i v.1) (fun v => m.Roads.n - v.2.toNat)
    (fun z => ∃ y, z = .inl y ∧ GQ m.Roads pl m.Roads.n y) (fun v hv => by
      obtain ⟨l, x⟩ := v
      obtain ⟨i, rfl, hi, h⟩ := hv
      have n0 := h.n
      dsimp only at n0 ⊢
      unfold vo
      by_cases c : i < m.Roads.n
      · rw [aA (dlt c), aA (dix c), aF, aQ (by omega)]
        have hg : decide ((l.n + 1) * 8 ≤ 140737488355328 ∧ (l.n + 1) ≤ 1099511627776) = true := decide_eq_true ⟨by omega, by omega⟩
        by_cases cF : (m.Roads.f i).From = pl
        · rw [aA (by simpa using cF), aA hg]
          exact ⟨_, rfl, ⟨i + 1, rfl, by omega, h.add (.inl cF) rfl fun j => zL _ _ _ _⟩, by dsimp only; omega⟩
        · rw [aD (by simpa using cF)]
          by_cases cT : (m.Roads.f i).To = pl
          · rw [aA (by simpa using cT), aA hg]
            exact ⟨_, rfl, ⟨i + 1, rfl, by omega, h.add (.inr cT) rfl fun j => zL _ _ _ _⟩, by dsimp only; omega⟩
          · rw [aD (by simpa using cT)]
            exact ⟨_, rfl, ⟨i + 1, rfl, by omega, h.skip fun q => q.elim cF cT⟩, by dsimp only; omega⟩
      · obtain rfl : i = m.Roads.n := by omega
        rw [aD (dge (Nat.le_refl _))]
        exact ⟨_, rfl, _, rfl, h⟩)
    (⟨0, fun _ => 0⟩, 0) ⟨0, rfl, by omega, Nat.le_refl _, fun j hj => absurd hj (Nat.not_lt_zero _), fun j j' _ hj => absurd hj (Nat.not_lt_zero _), fun g => rfl, fun i hi _ => absurd hi (Nat.not_lt_zero _)⟩
  obtain ⟨z, hz, y, rfl, g⟩ := key
  rw [abR]; unfold MF
  rw [aI (by rw [Xc]; exact hz)]
  exact ⟨_, rfl, g⟩
def afR (l : Sq Int) (v : Int) (j : Nat) : Option Int := if v = l.f j then some (j : Int) else none
theorem P8 (l : Sq Int) (v : Int) (h : l.n ≤ 1000) : ∃ z, slices_Index l v = some z ∧ ((z = -1 ∧ ∀ j, j < l.n → l.f j ≠ v) ∨ ∃ j : Nat, z = j ∧ j < l.n ∧ l.f j = v) := by
  have key : Ez l v 0 = some (sumO (aR (afR l v) l.n 0)) := by
    rw [Ac, ← jV]
    refine aX (step := fun x => gq l v x) (n := l.n) (afR l v) (fun i hi => ?_) ?_ l.n 0 (Nat.zero_add _)
    · unfold gq afR
      rw [aA (dlt hi), aA (dix hi), aF, aQ (by omega)]
      by_cases c : v = l.f i
      · rw [aA (by simpa using c), if_pos c]; rfl
      · rw [aD (by simpa using c), if_neg c]; rfl
    · unfold gq
      rw [aD (dge (Nat.le_refl _))]; rfl
  rw [Ey]; unfold yB
  rw [aI key]
  cases hf : aR (afR l v) l.n 0 with
  | none =>
    refine ⟨-1, rfl, .inl ⟨rfl, fun j hj e => ?_⟩⟩
    have := jf hf j (Nat.zero_le _) (by omega)
    unfold afR at this
    rw [if_pos e.symm] at this
    cases this
  | some b =>
    obtain ⟨j, _, hj, e, _⟩ := yV hf
    unfold afR at e
    by_cases c : v = l.f j
    · rw [if_pos c] at e
      exact ⟨b, rfl, .inr ⟨j, (Option.some.inj e).symm, by omega, c.symm⟩⟩
    · rw [if_neg c] at e; cases e
theorem aiz {a : SAir} {s : au} {P : Sq Int} {pl : Int} {l : Sq Int} {k : Nat} (h : GQ a.Mine.Roads pl a.Mine.Roads.n l) (hk : a.Mine.Roads.n = k) (hk2 : k ≤ 128) (R0 : Sq aB) (h0 : R0.n = 0) :
    ∃ R, vN a.Mine.Places a.Mine.Roads a.Fans a.Doors s.Fans s.Doors P pl l R0 0 = some (.inl R) ∧ R.n = l.n ∧ ∀ j, j < l.n → R.f j = a.Mine.Roads.f (l.f j).toNat := by
  have hn := h.n
  have key := bH (step := fun v : Sq aB × Int => jv a.Mine.Places a.Mine.Roads a.Fans a.Doors s.Fans s.Doors P pl l v.1 v.2)
    (fun v => v.2 = v.1.n ∧ v.1.n ≤ l.n ∧ ∀ j, j < v.1.n → v.1.f j = a.Mine.Roads.f (l.f j).toNat) (fun v => l.n - v.1.n)
    (fun z => ∃ R, z = .inl R ∧ R.n = l.n ∧ ∀ j, j < l.n → R.f j = a.Mine.Roads.f (l.f j).toNat) (fun v hv => by
      obtain ⟨R, x⟩ := v
      obtain ⟨e, h1, h2⟩ := hv
      dsimp only at e h1 h2 ⊢
      subst e
      unfold jv
      by_cases c : R.n < l.n
      · have b := h.f R.n c
        rw [aA (dlt c), aA (dix c), aF, aA (decide_eq_true ⟨b.1, b.2.1⟩), aA (decide_eq_true ⟨by omega, by omega⟩), aQ (by omega)]
        refine ⟨_, rfl, ⟨rfl, by dsimp only; omega, fun j hj => ?_⟩, by dsimp only; omega⟩
        dsimp only at hj ⊢
        rw [TS (R := R.f) (r := a.Mine.Roads.f (l.f R.n).toNat)]
        split
        · rename_i q; exact h2 j q
        · obtain rfl : j = R.n := by omega
          rfl
      · have c' : R.n = l.n := by omega
        rw [aD (decide_eq_false (by omega))]
        exact ⟨_, rfl, _, rfl, c', fun j hj => h2 j (by omega)⟩)
    (R0, 0) ⟨by rw [h0]; rfl, by dsimp only; omega, fun j hj => by dsimp only at hj; omega⟩
  obtain ⟨z, hz, y, rfl, g⟩ := key
  exact ⟨y, by rw [GV]; exact hz, g⟩
theorem afP {F F' : Sq SFan} {s s' : Sq Int} {road x : Int} {b : Int × Int} : ∀ k, (∀ j, j < k → F.f j = F'.f j ∧ s.f j = s'.f j) → fsum F s road x b k = fsum F' s' road x b k := by
  intro k
  induction k with
  | zero => intro _; rfl
  | succ k ih =>
    intro h
    unfold fsum
    rw [ih fun j hj => h j (by omega), (h k (by omega)).1, (h k (by omega)).2]
theorem agd {D D' : Sq aC} {s s' : Sq Int} {road : Int} {b : Int × Int} : ∀ k, (∀ j, j < k → D.f j = D'.f j ∧ s.f j = s'.f j) → rsum D s road b k = rsum D' s' road b k := by
  intro k
  induction k with
  | zero => intro _; rfl
  | succ k ih =>
    intro h
    unfold rsum
    rw [ih fun j hj => h j (by omega), (h k (by omega)).1, (h k (by omega)).2]
structure JF (a : SAir) (s : au) (l : Sq Int) (i : Nat) (F : Sq SFan) (t : Sq Int) : Prop where
  n : F.n ≤ i
  tn : t.n = F.n
  f : ∀ k, k < F.n → fanE (F.f k) = 0 ∧ 0 ≤ (F.f k).Road ∧ (F.f k).Road < l.n ∧ -1 ≤ t.f k ∧ t.f k ≤ 2
  e : ∀ j, j < l.n → ∀ x b, fsum F t j x b F.n = fsum a.Fans s.Fans (l.f j) x b i
theorem ajO {n k : Nat} {F : Nat → SFan} {f : SFan} : (SFan.mk (cond (Nat.blt k n) (F k).Road f.Road) (cond (Nat.blt k n) (F k).Back f.Back) (cond (Nat.blt k n) (F k).Auxiliary f.Auxiliary) (Sq.mk (cond (Nat.blt k n) (F k).Curve.n f.Curve.n) (fun k2 => aM.mk (cond (Nat.blt k n) ((F k).Curve.f k2).Flow (f.Curve.f k2).Flow) (cond (Nat.blt k n) ((F k).Curve.f k2).Pressure (f.Curve.f k2).Pressure)))) = if k < n then F k else f := by
  by_cases h : k < n
  · rw [yO h, if_pos h]; rfl
  · rw [Au (by omega), if_neg h]; rfl
theorem ajM {f : SFan} (h : fanE f = 0) {z : Int} (hz : 0 ≤ z) : fanE ⟨z, f.Back, f.Auxiliary, f.Curve⟩ = 0 := by
  have r := ac9 h
  unfold fanE at h ⊢
  rw [if_neg (by omega)] at h
  rw [if_neg (show ¬ z < 0 by omega)]
  exact h
theorem ahf {F : Sq SFan} {s : Sq Int} {road x : Int} {b : Int × Int} {k : Nat} {f : SFan} {st : Int} (h : F.f k = f) (h2 : s.f k = st) : fsum F s road x b (k + 1) = if f.Road = road then ((fsum F s road x b k).1 - (stS f st x).High, (fsum F s road x b k).2 - (stS f st x).Low) else fsum F s road x b k := by
  subst h h2; rfl
theorem JF.add {a : SAir} {s : au} {pl : Int} {l : Sq Int} {i : Nat} {F : Sq SFan} {t : Sq Int} (q : JF a s l i F t) (h : GQ a.Mine.Roads pl a.Mine.Roads.n l) {j : Nat} (hj : j < l.n) (ej : l.f j = (a.Fans.f i).Road) (f1 : fanE (a.Fans.f i) = 0) (f2 : -1 ≤ s.Fans.f i) (f3 : s.Fans.f i ≤ 2)
    {F' : Sq SFan} {t' : Sq Int} (n : F'.n = F.n + 1) (eF : ∀ k, F'.f k = if k < F.n then F.f k else ⟨j, (a.Fans.f i).Back, (a.Fans.f i).Auxiliary, (a.Fans.f i).Curve⟩) (tn : t'.n = t.n + 1) (et : ∀ k, t'.f k = if k < t.n then t.f k else s.Fans.f i) : JF a s l (i + 1) F' t' := by
  have q0 := q.n
  have q1 := q.tn
  have e1 : ∀ k, k < F.n → F'.f k = F.f k := fun k hk => by rw [eF, if_pos hk]
  have e2 : F'.f F.n = ⟨j, (a.Fans.f i).Back, (a.Fans.f i).Auxiliary, (a.Fans.f i).Curve⟩ := by rw [eF, if_neg (Nat.lt_irrefl _)]
  have u1 : ∀ k, k < F.n → t'.f k = t.f k := fun k hk => by rw [et, if_pos (by omega)]
  have u2 : t'.f F.n = s.Fans.f i := by rw [et, if_neg (by omega)]
  refine ⟨by omega, by omega, fun k hk => ?_, fun j' hj' x b => ?_⟩
  · by_cases d : k < F.n
    · rw [e1 k d, u1 k d]; exact q.f k d
    · obtain rfl : k = F.n := by omega
      rw [e2, u2]; exact ⟨ajM f1 (by omega), by dsimp only; omega, by dsimp only; omega, f2, f3⟩
  · have g := q.e j' hj' x b
    rw [n, ahf e2 u2, afP (F' := F) (s' := t) F.n fun k hk => ⟨e1 k hk, u1 k hk⟩, ahf (F := a.Fans) (k := i) rfl rfl, ← g]
    dsimp only
    by_cases d : j = j'
    · subst d
      rw [if_pos rfl, if_pos ej.symm]; rfl
    · rw [if_neg (by omega), if_neg fun e => d (h.inj hj hj' (by rw [ej, e]))]
theorem ajV {a : SAir} {s : au} (ok : RtOK a s) {P : Sq Int} {pl : Int} {l : Sq Int} (h : GQ a.Mine.Roads pl a.Mine.Roads.n l) (R : Sq aB) (F0 : Sq SFan) (t0 : Sq Int) (h0 : F0.n = 0) (h1 : t0.n = 0) :
    ∃ F t, uL a.Fans a.Mine.Places a.Mine.Roads a.Doors s.Fans s.Doors R P pl l F0 t0 0 = some (.inl (F, t)) ∧ JF a s l a.Fans.n F t := by
  have hn := h.n
  have nr := ok.m.nr
  have nf := ok.nf
  have sf := ok.sf
  have key := bH (step := fun v : Sq SFan × Sq Int × Int => iV a.Fans a.Mine.Places a.Mine.Roads a.Doors s.Fans s.Doors R P pl l v.1 v.2.1 v.2.2)
    (fun v => ∃ i : Nat, v.2.2 = i ∧ i ≤ a.Fans.n ∧ JF a s l i v.1 v.2.1) (fun v => a.Fans.n - v.2.2.toNat)
    (fun z => ∃ y, z = .inl y ∧ JF a s l a.Fans.n y.1 y.2) (fun v hv => by
      obtain ⟨F, t, x⟩ := v
      obtain ⟨i, rfl, hi, q⟩ := hv
      have q0 := q.n
      have q1 := q.tn
      dsimp only at q0 q1 ⊢
      unfold iV
      by_cases c : i < a.Fans.n
      · obtain ⟨f1, f2, f3⟩ := ok.f i c
        obtain ⟨z, ez, hz⟩ := P8 l (a.Fans.f i).Road (by omega)
        rw [aA (dlt c), aA (dix c), aF, get_bind ez, aQ (by omega)]
        rcases hz with ⟨rfl, hz⟩ | ⟨j, rfl, hj, ej⟩
        · rw [aD (decide_eq_false (by omega))]
          refine ⟨_, rfl, ⟨i + 1, rfl, by omega, ⟨by dsimp only; omega, q1, q.f, fun j hj x b => ?_⟩⟩, by dsimp only; omega⟩
          rw [q.e j hj x b]
          conv => rhs; unfold fsum
          rw [if_neg fun e => hz j hj e.symm]
        · rw [aA (decide_eq_true (by omega)), aA (decide_eq_true ⟨by omega, by omega⟩), aA (dix (by omega)), aA (decide_eq_true ⟨by omega, by omega⟩)]
          exact ⟨_, rfl, ⟨i + 1, rfl, by omega, q.add h hj ej f1 f2 f3 rfl (fun k => ajO (F := F.f) (f := SFan.mk (j : Int) (a.Fans.f i).Back (a.Fans.f i).Auxiliary (a.Fans.f i).Curve)) rfl fun k => zL _ _ _ _⟩, by dsimp only; omega⟩
      · obtain rfl : i = a.Fans.n := by omega
        rw [aD (dge (Nat.le_refl _))]
        exact ⟨_, rfl, _, rfl, q⟩)
    (F0, t0, 0) ⟨0, rfl, by omega, ⟨by dsimp only; omega, by dsimp only; omega, fun k hk => by dsimp only at hk; omega, fun j hj x b => by dsimp only; rw [h0]; rfl⟩⟩
  obtain ⟨z, hz, y, rfl, g⟩ := key
  exact ⟨y.1, y.2, by rw [FM]; exact hz, g⟩
structure ad5 (d : aC) : Prop where
  r : 0 ≤ d.Road
  n0 : 2 ≤ d.Rests.n
  n1 : d.Rests.n ≤ 6
  o : aR (gO d.Rests) d.Rests.n 0 = none
  d : aR (gD d.Rests) d.Rests.n 0 = none
theorem ad5.of {l : Sq aC} {i : Nat} (h : DC l i = 0) : ad5 (l.f i) := by
  have h1 := QD h
  have h2 := UD h
  unfold DC at h
  rw [if_neg (by omega), if_neg (by omega), if_neg (by omega)] at h
  cases ho : aR (gO (l.f i).Rests) (l.f i).Rests.n 0 with
  | some _ => rw [ho] at h; cases h
  | none =>
    rw [ho] at h
    dsimp only at h
    cases hd : aR (gD (l.f i).Rests) (l.f i).Rests.n 0 with
    | some _ => rw [hd] at h; cases h
    | none => exact ⟨h2, h1.1, h1.2, ho, hd⟩
theorem ad5.to {l : Sq aC} {i : Nat} (h : ad5 (l.f i)) (ho : (l.f i).Other = -1) : DC l i = 0 := by
  have := h.r
  have := h.n0
  have := h.n1
  unfold DC
  rw [if_neg (by omega), if_neg (by omega), if_neg (by omega), h.o, h.d]
  dsimp only
  rw [if_pos (.inl ho)]
structure JD (a : SAir) (s : au) (l : Sq Int) (i : Nat) (D : Sq aC) (t : Sq Int) : Prop where
  n : D.n ≤ i
  tn : t.n = D.n
  f : ∀ k, k < D.n → ad5 (D.f k) ∧ (D.f k).Other = -1 ∧ (D.f k).Road < l.n ∧ -1 ≤ t.f k ∧ t.f k < ((D.f k).Rests.n : Int)
  e : ∀ j, j < l.n → ∀ b, rsum D t j b D.n = rsum a.Doors s.Doors (l.f j) b i
theorem aio {n k : Nat} {F : Nat → aC} {f : aC} : (aC.mk (cond (Nat.blt k n) (F k).Road f.Road) (cond (Nat.blt k n) (F k).Other f.Other) (Sq.mk (cond (Nat.blt k n) (F k).Rests.n f.Rests.n) (fun k2 => cond (Nat.blt k n) ((F k).Rests.f k2) (f.Rests.f k2)))) = if k < n then F k else f := by
  by_cases h : k < n
  · rw [yO h, if_pos h]; rfl
  · rw [Au (by omega), if_neg h]; rfl
theorem ahN {D : Sq aC} {s : Sq Int} {road : Int} {b : Int × Int} {k : Nat} {d : aC} {st : Int} (h : D.f k = d) (h2 : s.f k = st) : rsum D s road b (k + 1) = if d.Road = road then ((rsum D s road b k).1 + (rsS d.Rests st).Low, (rsum D s road b k).2 + (rsS d.Rests st).High) else rsum D s road b k := by
  subst h h2; rfl
theorem JD.add {a : SAir} {s : au} {pl : Int} {l : Sq Int} {i : Nat} {D : Sq aC} {t : Sq Int} (q : JD a s l i D t) (h : GQ a.Mine.Roads pl a.Mine.Roads.n l) {j : Nat} (hj : j < l.n) (ej : l.f j = (a.Doors.f i).Road) (dc : ad5 (a.Doors.f i)) (f2 : -1 ≤ s.Doors.f i) (f3 : s.Doors.f i < ((a.Doors.f i).Rests.n : Int))
    {D' : Sq aC} {t' : Sq Int} (n : D'.n = D.n + 1) (eD : ∀ k, D'.f k = if k < D.n then D.f k else ⟨j, -1, (a.Doors.f i).Rests⟩) (tn : t'.n = t.n + 1) (et : ∀ k, t'.f k = if k < t.n then t.f k else s.Doors.f i) : JD a s l (i + 1) D' t' := by
  have q0 := q.n
  have q1 := q.tn
  have e1 : ∀ k, k < D.n → D'.f k = D.f k := fun k hk => by rw [eD, if_pos hk]
  have e2 : D'.f D.n = ⟨j, -1, (a.Doors.f i).Rests⟩ := by rw [eD, if_neg (Nat.lt_irrefl _)]
  have u1 : ∀ k, k < D.n → t'.f k = t.f k := fun k hk => by rw [et, if_pos (by omega)]
  have u2 : t'.f D.n = s.Doors.f i := by rw [et, if_neg (by omega)]
  refine ⟨by omega, by omega, fun k hk => ?_, fun j' hj' b => ?_⟩
  · by_cases d : k < D.n
    · rw [e1 k d, u1 k d]; exact q.f k d
    · obtain rfl : k = D.n := by omega
      rw [e2, u2]; exact ⟨⟨by dsimp only; omega, dc.n0, dc.n1, dc.o, dc.d⟩, rfl, by dsimp only; omega, f2, f3⟩
  · have g := q.e j' hj' b
    rw [n, ahN e2 u2, agd (D' := D) (s' := t) D.n fun k hk => ⟨e1 k hk, u1 k hk⟩, ahN (D := a.Doors) (k := i) rfl rfl, ← g]
    dsimp only
    by_cases d : j = j'
    · subst d
      rw [if_pos rfl, if_pos ej.symm]
    · rw [if_neg (by omega), if_neg fun e => d (h.inj hj hj' (by rw [ej, e]))]
theorem aix {a : SAir} {s : au} (ok : RtOK a s) (hD : ∀ i, i < a.Doors.n → ad5 (a.Doors.f i)) {P : Sq Int} {pl : Int} {l : Sq Int} (h : GQ a.Mine.Roads pl a.Mine.Roads.n l) (R : Sq aB) (F : Sq SFan) (u : Sq Int) (F0 : Sq aC) (t0 : Sq Int) (h0 : F0.n = 0) (h1 : t0.n = 0) :
    ∃ D t, uM a.Doors s.Fans s.Doors R F u a.Mine.Places P pl l F0 t0 0 = some (.inl (D, t)) ∧ JD a s l a.Doors.n D t := by
  have hn := h.n
  have nr := ok.m.nr
  have nf := ok.nd
  have sf := ok.sd
  have key := bH (step := fun v : Sq aC × Sq Int × Int => iW a.Doors s.Fans s.Doors R F u a.Mine.Places P pl l v.1 v.2.1 v.2.2)
    (fun v => ∃ i : Nat, v.2.2 = i ∧ i ≤ a.Doors.n ∧ JD a s l i v.1 v.2.1) (fun v => a.Doors.n - v.2.2.toNat)
    (fun z => ∃ y, z = .inl y ∧ JD a s l a.Doors.n y.1 y.2) (fun v hv => by
      obtain ⟨D, t, x⟩ := v
      obtain ⟨i, rfl, hi, q⟩ := hv
      have q0 := q.n
      have q1 := q.tn
      dsimp only at q0 q1 ⊢
      unfold iW
      by_cases c : i < a.Doors.n
      · obtain ⟨_, f2, f3⟩ := ok.d i c
        obtain ⟨z, ez, hz⟩ := P8 l (a.Doors.f i).Road (by omega)
        rw [aA (dlt c), aA (dix c), aF, get_bind ez, aQ (by omega)]
        rcases hz with ⟨rfl, hz⟩ | ⟨j, rfl, hj, ej⟩
        · rw [aD (decide_eq_false (by omega))]
          refine ⟨_, rfl, ⟨i + 1, rfl, by omega, ⟨by dsimp only; omega, q1, q.f, fun j hj b => ?_⟩⟩, by dsimp only; omega⟩
          rw [q.e j hj b]
          conv => rhs; unfold rsum
          rw [if_neg fun e => hz j hj e.symm]
        · rw [aA (decide_eq_true (by omega)), aA (decide_eq_true ⟨by omega, by omega⟩), aA (dix (by omega)), aA (decide_eq_true ⟨by omega, by omega⟩)]
          exact ⟨_, rfl, ⟨i + 1, rfl, by omega, q.add h hj ej (hD i c) f2 f3 rfl (fun k => aio (F := D.f) (f := aC.mk (j : Int) (-1) (a.Doors.f i).Rests)) rfl fun k => zL _ _ _ _⟩, by dsimp only; omega⟩
      · obtain rfl : i = a.Doors.n := by omega
        rw [aD (dge (Nat.le_refl _))]
        exact ⟨_, rfl, _, rfl, q⟩)
    (F0, t0, 0) ⟨0, rfl, by omega, ⟨by dsimp only; omega, by dsimp only; omega, fun k hk => by dsimp only at hk; omega, fun j hj b => by dsimp only; rw [h0]; rfl⟩⟩
  obtain ⟨z, hz, y, rfl, g⟩ := key
  exact ⟨y.1, y.2, by rw [FN]; exact hz, g⟩
end Go.Proofs.YtmfiagdelnddkaaGreat.Ab
