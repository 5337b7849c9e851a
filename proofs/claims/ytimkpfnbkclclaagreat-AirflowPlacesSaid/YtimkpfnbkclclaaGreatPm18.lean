/- A part of the proof, what is needed of it. -/
import Derived.Test.YtimkpfnbkclclaaGreatPm17
namespace Go.Proofs.YtimkpfnbkclclaaGreat.Ab
open Go
def adj (r : qC) (pl : Int) : Prop := r.From = pl ∨ r.To = pl
instance (r : qC) (pl : Int) : Decidable (adj r pl) := inferInstanceAs (Decidable (_ ∨ _))
structure ajA (R : Sq qC) (pl : Int) (k : Nat) (l : Sq Int) : Prop where
  n : l.n ≤ k
  f : ∀ j, j < l.n → 0 ≤ l.f j ∧ l.f j < k ∧ adj (R.f (l.f j).toNat) pl
  up : ∀ j j', j < j' → j' < l.n → l.f j < l.f j'
  s : ∀ g : Nat → Int, sumN (fun j => g (l.f j).toNat) l.n = sumN (fun i => if adj (R.f i) pl then g i else 0) k
  c : ∀ i, i < k → adj (R.f i) pl → ∃ j, j < l.n ∧ l.f j = i
theorem ajA.inj {R : Sq qC} {pl : Int} {k : Nat} {l : Sq Int} (h : ajA R pl k l) {j j' : Nat} (hj : j < l.n) (hj' : j' < l.n) (e : l.f j = l.f j') : j = j' := by
  rcases Nat.lt_trichotomy j j' with c | c | c
  · have := h.up j j' c hj'; omega
  · exact c
  · have := h.up j' j c hj; omega
theorem ajA.add {R : Sq qC} {pl : Int} {k : Nat} {l l' : Sq Int} (h : ajA R pl k l) (hk : adj (R.f k) pl) (hn : l'.n = l.n + 1) (hf : ∀ j, l'.f j = if j < l.n then l.f j else (k : Int)) : ajA R pl (k + 1) l' := by
  have n0 := h.n
  have e1 : ∀ j, j < l.n → l'.f j = l.f j := fun j hj => by rw [hf, if_pos hj]
  have e2 : l'.f l.n = k := by rw [hf, if_neg (by omega)]
  refine ⟨by omega, fun j hj => ?_, fun j j' h1 h2 => ?_, fun g => ?_, fun i hi ha => ?_⟩
  · by_cases c : j < l.n
    · rw [e1 j c]; have := h.f j c; exact ⟨this.1, by omega, this.2.2⟩
    · obtain rfl : j = l.n := by omega
      rw [e2]; exact ⟨by omega, by omega, hk⟩
  · by_cases c : j' < l.n
    · rw [e1 j (by omega), e1 j' c]; exact h.up j j' h1 c
    · obtain rfl : j' = l.n := by omega
      rw [e1 j h1, e2]; have := h.f j h1; omega
  · rw [hn]
    show sumN (fun j => g (l'.f j).toNat) l.n + g (l'.f l.n).toNat = sumN (fun i => if adj (R.f i) pl then g i else 0) k + (if adj (R.f k) pl then g k else 0)
    rw [e2, if_pos hk, ← h.s g, ai0 (g := fun j => g (l'.f j).toNat) (g' := fun j => g (l.f j).toNat) fun j hj => congrArg (fun z : Int => g z.toNat) (e1 j hj)]
    rfl
  · by_cases c : i < k
    · obtain ⟨j, h1, h2⟩ := h.c i c ha
      exact ⟨j, by omega, by rw [e1 j h1]; exact h2⟩
    · obtain rfl : i = k := by omega
      exact ⟨l.n, by omega, e2⟩
theorem ajA.skip {R : Sq qC} {pl : Int} {k : Nat} {l : Sq Int} (h : ajA R pl k l) (hk : ¬ adj (R.f k) pl) : ajA R pl (k + 1) l := by
  have n0 := h.n
  refine ⟨by omega, fun j hj => by have := h.f j hj; exact ⟨this.1, by omega, this.2.2⟩, h.up, fun g => ?_, fun i hi ha => ?_⟩
  · show _ = sumN (fun i => if adj (R.f i) pl then g i else 0) k + (if adj (R.f k) pl then g k else 0)
    rw [if_neg hk, ← h.s g, Int.add_zero]
  · by_cases c : i < k
    · exact h.c i c ha
    · obtain rfl : i = k := by omega
      exact absurd ha hk
theorem akv {m : qI} (hm : m.Roads.n ≤ 128) (pl : Int) : ∃ l, Yi m pl = some l ∧ ajA m.Roads pl m.Roads.n l := by
  have key := pY (step := fun v : Sq Int × Int => KO pl m.Roads v.1 v.2)
    (fun v => ∃ i : Nat, v.2 = i ∧ i ≤ m.Roads.n ∧ ajA m.Roads pl i v.1) (fun v => m.Roads.n - v.2.toNat)
    (fun z => ∃ y, z = .inl y ∧ ajA m.Roads pl m.Roads.n y) (fun v hv => by
      obtain ⟨l, x⟩ := v
      obtain ⟨i, rfl, hi, h⟩ := hv
      have n0 := h.n
      dsimp only at n0 ⊢
      unfold KO
      by_cases c : i < m.Roads.n
      · rw [qo (dlt c), qo (dix c), pI, qc (by omega)]
        have hg : decide ((l.n + 1) * 8 ≤ 140737488355328 ∧ (l.n + 1) ≤ 1099511627776) = true := decide_eq_true ⟨by omega, by omega⟩
        by_cases cF : (m.Roads.f i).From = pl
        · rw [qo (by simpa using cF), qo hg]
          exact ⟨_, rfl, ⟨i + 1, rfl, by omega, h.add (.inl cF) rfl fun j => ajg _ _ _ _⟩, by dsimp only; omega⟩
        · rw [qm (by simpa using cF)]
          by_cases cT : (m.Roads.f i).To = pl
          · rw [qo (by simpa using cT), qo hg]
            exact ⟨_, rfl, ⟨i + 1, rfl, by omega, h.add (.inr cT) rfl fun j => ajg _ _ _ _⟩, by dsimp only; omega⟩
          · rw [qm (by simpa using cT)]
            exact ⟨_, rfl, ⟨i + 1, rfl, by omega, h.skip fun q => q.elim cF cT⟩, by dsimp only; omega⟩
      · obtain rfl : i = m.Roads.n := by omega
        rw [qm (dge (Nat.le_refl _))]
        exact ⟨_, rfl, _, rfl, h⟩)
    (⟨0, fun _ => 0⟩, 0) ⟨0, rfl, by omega, Nat.le_refl _, fun j hj => absurd hj (Nat.not_lt_zero _), fun j j' _ hj => absurd hj (Nat.not_lt_zero _), fun g => rfl, fun i hi _ => absurd hi (Nat.not_lt_zero _)⟩
  obtain ⟨z, hz, y, rfl, g⟩ := key
  rw [ah3]; unfold Y8
  rw [pV (by rw [ags]; exact hz)]
  exact ⟨_, rfl, g⟩
def anz (l : Sq Int) (v : Int) (j : Nat) : Option Int := if v = l.f j then some (j : Int) else none
theorem akd (l : Sq Int) (v : Int) (h : l.n ≤ 1000) : ∃ z, slices_Index l v = some z ∧ ((z = -1 ∧ ∀ j, j < l.n → l.f j ≠ v) ∨ ∃ j : Nat, z = j ∧ j < l.n ∧ l.f j = v) := by
  have key : Rw l v 0 = some (sumO (bn (anz l v) l.n 0)) := by
    rw [afk, ← aiX]
    refine oM (step := fun x => II l v x) (n := l.n) (anz l v) (fun i hi => ?_) ?_ l.n 0 (Nat.zero_add _)
    · unfold II anz
      rw [qo (dlt hi), qo (dix hi), pI, qc (by omega)]
      by_cases c : v = l.f i
      · rw [qo (by simpa using c), if_pos c]; rfl
      · rw [qm (by simpa using c), if_neg c]; rfl
    · unfold II
      rw [qm (dge (Nat.le_refl _))]; rfl
  rw [aha]; unfold Uz
  rw [pV key]
  cases hf : bn (anz l v) l.n 0 with
  | none =>
    refine ⟨-1, rfl, .inl ⟨rfl, fun j hj e => ?_⟩⟩
    have := oh hf j (Nat.zero_le _) (by omega)
    unfold anz at this
    rw [if_pos e.symm] at this
    cases this
  | some b =>
    obtain ⟨j, _, hj, e, _⟩ := om hf
    unfold anz at e
    by_cases c : v = l.f j
    · rw [if_pos c] at e
      exact ⟨b, rfl, .inr ⟨j, (Option.some.inj e).symm, by omega, c.symm⟩⟩
    · rw [if_neg c] at e; cases e
theorem aoD {a : SAir} {s : qz} {P : Sq Int} {pl : Int} {l : Sq Int} {k : Nat} (h : ajA a.Mine.Roads pl a.Mine.Roads.n l) (hk : a.Mine.Roads.n = k) (hk2 : k ≤ 128) (R0 : Sq qC) (h0 : R0.n = 0) :
    ∃ R, Gy a.Mine.Places a.Mine.Roads a.Fans a.Doors s.Fans s.Doors P pl l R0 0 = some (.inl R) ∧ R.n = l.n ∧ ∀ j, j < l.n → R.f j = a.Mine.Roads.f (l.f j).toNat := by
  have hn := h.n
  have key := pY (step := fun v : Sq qC × Int => Dm a.Mine.Places a.Mine.Roads a.Fans a.Doors s.Fans s.Doors P pl l v.1 v.2)
    (fun v => v.2 = v.1.n ∧ v.1.n ≤ l.n ∧ ∀ j, j < v.1.n → v.1.f j = a.Mine.Roads.f (l.f j).toNat) (fun v => l.n - v.1.n)
    (fun z => ∃ R, z = .inl R ∧ R.n = l.n ∧ ∀ j, j < l.n → R.f j = a.Mine.Roads.f (l.f j).toNat) (fun v hv => by
      obtain ⟨R, x⟩ := v
      obtain ⟨e, h1, h2⟩ := hv
      dsimp only at e h1 h2 ⊢
      subst e
      unfold Dm
      by_cases c : R.n < l.n
      · have b := h.f R.n c
        rw [qo (dlt c), qo (dix c), pI, qo (decide_eq_true ⟨b.1, b.2.1⟩), qo (decide_eq_true ⟨by omega, by omega⟩), qc (by omega)]
        refine ⟨_, rfl, ⟨rfl, by dsimp only; omega, fun j hj => ?_⟩, by dsimp only; omega⟩
        dsimp only at hj ⊢
        rw [akE (R := R.f) (r := a.Mine.Roads.f (l.f R.n).toNat)]
        split
        · rename_i q; exact h2 j q
        · obtain rfl : j = R.n := by omega
          rfl
      · have c' : R.n = l.n := by omega
        rw [qm (decide_eq_false (by omega))]
        exact ⟨_, rfl, _, rfl, c', fun j hj => h2 j (by omega)⟩)
    (R0, 0) ⟨by rw [h0]; rfl, by dsimp only; omega, fun j hj => by dsimp only at hj; omega⟩
  obtain ⟨z, hz, y, rfl, g⟩ := key
  exact ⟨y, by rw [acv]; exact hz, g⟩
theorem anw {F F' : Sq SFan} {s s' : Sq Int} {road x : Int} {b : Int × Int} : ∀ k, (∀ j, j < k → F.f j = F'.f j ∧ s.f j = s'.f j) → fsum F s road x b k = fsum F' s' road x b k := by
  intro k
  induction k with
  | zero => intro _; rfl
  | succ k ih =>
    intro h
    unfold fsum
    rw [ih fun j hj => h j (by omega), (h k (by omega)).1, (h k (by omega)).2]
theorem anI {D D' : Sq qD} {s s' : Sq Int} {road : Int} {b : Int × Int} : ∀ k, (∀ j, j < k → D.f j = D'.f j ∧ s.f j = s'.f j) → rsum D s road b k = rsum D' s' road b k := by
  intro k
  induction k with
  | zero => intro _; rfl
  | succ k ih =>
    intro h
    unfold rsum
    rw [ih fun j hj => h j (by omega), (h k (by omega)).1, (h k (by omega)).2]
structure JF (a : SAir) (s : qz) (l : Sq Int) (i : Nat) (F : Sq SFan) (t : Sq Int) : Prop where
  n : F.n ≤ i
  tn : t.n = F.n
  f : ∀ k, k < F.n → fanE (F.f k) = 0 ∧ 0 ≤ (F.f k).Road ∧ (F.f k).Road < l.n ∧ -1 ≤ t.f k ∧ t.f k ≤ 2
  e : ∀ j, j < l.n → ∀ x b, fsum F t j x b F.n = fsum a.Fans s.Fans (l.f j) x b i
theorem aph {n k : Nat} {F : Nat → SFan} {f : SFan} : (SFan.mk (cond (Nat.blt k n) (F k).Road f.Road) (cond (Nat.blt k n) (F k).Back f.Back) (cond (Nat.blt k n) (F k).Auxiliary f.Auxiliary) (Sq.mk (cond (Nat.blt k n) (F k).Curve.n f.Curve.n) (fun k2 => qH.mk (cond (Nat.blt k n) ((F k).Curve.f k2).Flow (f.Curve.f k2).Flow) (cond (Nat.blt k n) ((F k).Curve.f k2).Pressure (f.Curve.f k2).Pressure)))) = if k < n then F k else f := by
  by_cases h : k < n
  · rw [ajf h, if_pos h]; rfl
  · rw [ajl (by omega), if_neg h]; rfl
theorem apf {f : SFan} (h : fanE f = 0) {z : Int} (hz : 0 ≤ z) : fanE ⟨z, f.Back, f.Auxiliary, f.Curve⟩ = 0 := by
  have r := amm h
  unfold fanE at h ⊢
  rw [if_neg (by omega)] at h
  rw [if_neg (show ¬ z < 0 by omega)]
  exact h
theorem an5 {F : Sq SFan} {s : Sq Int} {road x : Int} {b : Int × Int} {k : Nat} {f : SFan} {st : Int} (h : F.f k = f) (h2 : s.f k = st) : fsum F s road x b (k + 1) = if f.Road = road then ((fsum F s road x b k).1 - (stS f st x).High, (fsum F s road x b k).2 - (stS f st x).Low) else fsum F s road x b k := by
  subst h h2; rfl
theorem JF.add {a : SAir} {s : qz} {pl : Int} {l : Sq Int} {i : Nat} {F : Sq SFan} {t : Sq Int} (q : JF a s l i F t) (h : ajA a.Mine.Roads pl a.Mine.Roads.n l) {j : Nat} (hj : j < l.n) (ej : l.f j = (a.Fans.f i).Road) (f1 : fanE (a.Fans.f i) = 0) (f2 : -1 ≤ s.Fans.f i) (f3 : s.Fans.f i ≤ 2)
    {F' : Sq SFan} {t' : Sq Int} (n : F'.n = F.n + 1) (eF : ∀ k, F'.f k = if k < F.n then F.f k else ⟨j, (a.Fans.f i).Back, (a.Fans.f i).Auxiliary, (a.Fans.f i).Curve⟩) (tn : t'.n = t.n + 1) (et : ∀ k, t'.f k = if k < t.n then t.f k else s.Fans.f i) : JF a s l (i + 1) F' t' := by
  have q0 := q.n
  have q1 := q.tn
  have e1 : ∀ k, k < F.n → F'.f k = F.f k := fun k hk => by rw [eF, if_pos hk]
  have e2 : F'.f F.n = ⟨j, (a.Fans.f i).Back, (a.Fans.f i).Auxiliary, (a.Fans.f i).Curve⟩ := by rw [eF, if_neg (Nat.lt_irrefl _)]
  have u1 : ∀ k, k < F.n → t'.f k = t.f k := fun k hk => by rw [et, if_pos (by omega)]
  have u2 : t'.f F.n = s.Fans.f i := by rw [et, if_neg (by omega)]
  refine ⟨by omega, by omega, fun k hk => ?_, fun j' hj' x b => ?_⟩
  · by_cases d : k < F.n
    · rw [e1 k d, u1 k d]; exact q.f k d
    · obtain rfl : k = F.n := by omega
      rw [e2, u2]; exact ⟨apf f1 (by omega), by dsimp only; omega, by dsimp only; omega, f2, f3⟩
  · have g := q.e j' hj' x b
    rw [n, an5 e2 u2, anw (F' := F) (s' := t) F.n fun k hk => ⟨e1 k hk, u1 k hk⟩, an5 (F := a.Fans) (k := i) rfl rfl, ← g]
    dsimp only
    by_cases d : j = j'
    · subst d
      rw [if_pos rfl, if_pos ej.symm]; rfl
    · rw [if_neg (by omega), if_neg fun e => d (h.inj hj hj' (by rw [ej, e]))]
theorem apo {a : SAir} {s : qz} (ok : RtOK a s) {P : Sq Int} {pl : Int} {l : Sq Int} (h : ajA a.Mine.Roads pl a.Mine.Roads.n l) (R : Sq qC) (F0 : Sq SFan) (t0 : Sq Int) (h0 : F0.n = 0) (h1 : t0.n = 0) :
    ∃ F t, FH a.Fans a.Mine.Places a.Mine.Roads a.Doors s.Fans s.Doors R P pl l F0 t0 0 = some (.inl (F, t)) ∧ JF a s l a.Fans.n F t := by
  have hn := h.n
  have nr := ok.m.nr
  have nf := ok.nf
  have sf := ok.sf
  have key := pY (step := fun v : Sq SFan × Sq Int × Int => Ce a.Fans a.Mine.Places a.Mine.Roads a.Doors s.Fans s.Doors R P pl l v.1 v.2.1 v.2.2)
    (fun v => ∃ i : Nat, v.2.2 = i ∧ i ≤ a.Fans.n ∧ JF a s l i v.1 v.2.1) (fun v => a.Fans.n - v.2.2.toNat)
    (fun z => ∃ y, z = .inl y ∧ JF a s l a.Fans.n y.1 y.2) (fun v hv => by
      obtain ⟨F, t, x⟩ := v
      obtain ⟨i, rfl, hi, q⟩ := hv
      have q0 := q.n
      have q1 := q.tn
      dsimp only at q0 q1 ⊢
      unfold Ce
      by_cases c : i < a.Fans.n
      · obtain ⟨f1, f2, f3⟩ := ok.f i c
        obtain ⟨z, ez, hz⟩ := akd l (a.Fans.f i).Road (by omega)
        rw [qo (dlt c), qo (dix c), pI, get_bind ez, qc (by omega)]
        rcases hz with ⟨rfl, hz⟩ | ⟨j, rfl, hj, ej⟩
        · rw [qm (decide_eq_false (by omega))]
          refine ⟨_, rfl, ⟨i + 1, rfl, by omega, ⟨by dsimp only; omega, q1, q.f, fun j hj x b => ?_⟩⟩, by dsimp only; omega⟩
          rw [q.e j hj x b]
          conv => rhs; unfold fsum
          rw [if_neg fun e => hz j hj e.symm]
        · rw [qo (decide_eq_true (by omega)), qo (decide_eq_true ⟨by omega, by omega⟩), qo (dix (by omega)), qo (decide_eq_true ⟨by omega, by omega⟩)]
          exact ⟨_, rfl, ⟨i + 1, rfl, by omega, q.add h hj ej f1 f2 f3 rfl (fun k => aph (F := F.f) (f := SFan.mk (j : Int) (a.Fans.f i).Back (a.Fans.f i).Auxiliary (a.Fans.f i).Curve)) rfl fun k => ajg _ _ _ _⟩, by dsimp only; omega⟩
      · obtain rfl : i = a.Fans.n := by omega
        rw [qm (dge (Nat.le_refl _))]
        exact ⟨_, rfl, _, rfl, q⟩)
    (F0, t0, 0) ⟨0, rfl, by omega, ⟨by dsimp only; omega, by dsimp only; omega, fun k hk => by dsimp only at hk; omega, fun j hj x b => by dsimp only; rw [h0]; rfl⟩⟩
  obtain ⟨z, hz, y, rfl, g⟩ := key
  exact ⟨y.1, y.2, by rw [abQ]; exact hz, g⟩
structure amJ (d : qD) : Prop where
  r : 0 ≤ d.Road
  n0 : 2 ≤ d.Rests.n
  n1 : d.Rests.n ≤ 6
  o : bn (gO d.Rests) d.Rests.n 0 = none
  d : bn (gD d.Rests) d.Rests.n 0 = none
theorem amJ.of {l : Sq qD} {i : Nat} (h : ajt l i = 0) : amJ (l.f i) := by
  have h1 := akg h
  have h2 := akL h
  unfold ajt at h
  rw [if_neg (by omega), if_neg (by omega), if_neg (by omega)] at h
  cases ho : bn (gO (l.f i).Rests) (l.f i).Rests.n 0 with
  | some _ => rw [ho] at h; cases h
  | none =>
    rw [ho] at h
    dsimp only at h
    cases hd : bn (gD (l.f i).Rests) (l.f i).Rests.n 0 with
    | some _ => rw [hd] at h; cases h
    | none => exact ⟨h2, h1.1, h1.2, ho, hd⟩
theorem amJ.to {l : Sq qD} {i : Nat} (h : amJ (l.f i)) (ho : (l.f i).Other = -1) : ajt l i = 0 := by
  have := h.r
  have := h.n0
  have := h.n1
  unfold ajt
  rw [if_neg (by omega), if_neg (by omega), if_neg (by omega), h.o, h.d]
  dsimp only
  rw [if_pos (.inl ho)]
structure JD (a : SAir) (s : qz) (l : Sq Int) (i : Nat) (D : Sq qD) (t : Sq Int) : Prop where
  n : D.n ≤ i
  tn : t.n = D.n
  f : ∀ k, k < D.n → amJ (D.f k) ∧ (D.f k).Other = -1 ∧ (D.f k).Road < l.n ∧ -1 ≤ t.f k ∧ t.f k < ((D.f k).Rests.n : Int)
  e : ∀ j, j < l.n → ∀ b, rsum D t j b D.n = rsum a.Doors s.Doors (l.f j) b i
theorem aox {n k : Nat} {F : Nat → qD} {f : qD} : (qD.mk (cond (Nat.blt k n) (F k).Road f.Road) (cond (Nat.blt k n) (F k).Other f.Other) (Sq.mk (cond (Nat.blt k n) (F k).Rests.n f.Rests.n) (fun k2 => cond (Nat.blt k n) ((F k).Rests.f k2) (f.Rests.f k2)))) = if k < n then F k else f := by
  by_cases h : k < n
  · rw [ajf h, if_pos h]; rfl
  · rw [ajl (by omega), if_neg h]; rfl
theorem aog {D : Sq qD} {s : Sq Int} {road : Int} {b : Int × Int} {k : Nat} {d : qD} {st : Int} (h : D.f k = d) (h2 : s.f k = st) : rsum D s road b (k + 1) = if d.Road = road then ((rsum D s road b k).1 + (rsS d.Rests st).Low, (rsum D s road b k).2 + (rsS d.Rests st).High) else rsum D s road b k := by
  subst h h2; rfl
theorem JD.add {a : SAir} {s : qz} {pl : Int} {l : Sq Int} {i : Nat} {D : Sq qD} {t : Sq Int} (q : JD a s l i D t) (h : ajA a.Mine.Roads pl a.Mine.Roads.n l) {j : Nat} (hj : j < l.n) (ej : l.f j = (a.Doors.f i).Road) (dc : amJ (a.Doors.f i)) (f2 : -1 ≤ s.Doors.f i) (f3 : s.Doors.f i < ((a.Doors.f i).Rests.n : Int))
    {D' : Sq qD} {t' : Sq Int} (n : D'.n = D.n + 1) (eD : ∀ k, D'.f k = if k < D.n then D.f k else ⟨j, -1, (a.Doors.f i).Rests⟩) (tn : t'.n = t.n + 1) (et : ∀ k, t'.f k = if k < t.n then t.f k else s.Doors.f i) : JD a s l (i + 1) D' t' := by
  have q0 := q.n
  have q1 := q.tn
  have e1 : ∀ k, k < D.n → D'.f k = D.f k := fun k hk => by rw [eD, if_pos hk]
  have e2 : D'.f D.n = ⟨j, -1, (a.Doors.f i).Rests⟩ := by rw [eD, if_neg (Nat.lt_irrefl _)]
  have u1 : ∀ k, k < D.n → t'.f k = t.f k := fun k hk => by rw [et, if_pos (by omega)]
  have u2 : t'.f D.n = s.Doors.f i := by rw [et, if_neg (by omega)]
  refine ⟨by omega, by omega, fun k hk => ?_, fun j' hj' b => ?_⟩
  · by_cases d : k < D.n
    · rw [e1 k d, u1 k d]; exact q.f k d
    · obtain rfl : k = D.n := by omega
      rw [e2, u2]; exact ⟨⟨by dsimp only; omega, dc.n0, dc.n1, dc.o, dc.d⟩, rfl, by dsimp only; omega, f2, f3⟩
  · have g := q.e j' hj' b
    rw [n, aog e2 u2, anI (D' := D) (s' := t) D.n fun k hk => ⟨e1 k hk, u1 k hk⟩, aog (D := a.Doors) (k := i) rfl rfl, ← g]
    dsimp only
    by_cases d : j = j'
    · subst d
      rw [if_pos rfl, if_pos ej.symm]
    · rw [if_neg (by omega), if_neg fun e => d (h.inj hj hj' (by rw [ej, e]))]
theorem aoB {a : SAir} {s : qz} (ok : RtOK a s) (hD : ∀ i, i < a.Doors.n → amJ (a.Doors.f i)) {P : Sq Int} {pl : Int} {l : Sq Int} (h : ajA a.Mine.Roads pl a.Mine.Roads.n l) (R : Sq qC) (F : Sq SFan) (u : Sq Int) (F0 : Sq qD) (t0 : Sq Int) (h0 : F0.n = 0) (h1 : t0.n = 0) :
    ∃ D t, FI a.Doors s.Fans s.Doors R F u a.Mine.Places P pl l F0 t0 0 = some (.inl (D, t)) ∧ JD a s l a.Doors.n D t := by
  have hn := h.n
  have nr := ok.m.nr
  have nf := ok.nd
  have sf := ok.sd
  have key := pY (step := fun v : Sq qD × Sq Int × Int => Cg a.Doors s.Fans s.Doors R F u a.Mine.Places P pl l v.1 v.2.1 v.2.2)
    (fun v => ∃ i : Nat, v.2.2 = i ∧ i ≤ a.Doors.n ∧ JD a s l i v.1 v.2.1) (fun v => a.Doors.n - v.2.2.toNat)
    (fun z => ∃ y, z = .inl y ∧ JD a s l a.Doors.n y.1 y.2) (fun v hv => by
      obtain ⟨D, t, x⟩ := v
      obtain ⟨i, rfl, hi, q⟩ := hv
      have q0 := q.n
      have q1 := q.tn
      dsimp only at q0 q1 ⊢
      unfold Cg
      by_cases c : i < a.Doors.n
      · obtain ⟨_, f2, f3⟩ := ok.d i c
        obtain ⟨z, ez, hz⟩ := akd l (a.Doors.f i).Road (by omega)
        rw [qo (dlt c), qo (dix c), pI, get_bind ez, qc (by omega)]
        rcases hz with ⟨rfl, hz⟩ | ⟨j, rfl, hj, ej⟩
        · rw [qm (decide_eq_false (by omega))]
          refine ⟨_, rfl, ⟨i + 1, rfl, by omega, ⟨by dsimp only; omega, q1, q.f, fun j hj b => ?_⟩⟩, by dsimp only; omega⟩
          rw [q.e j hj b]
          conv => rhs; unfold rsum
          rw [if_neg fun e => hz j hj e.symm]
        · rw [qo (decide_eq_true (by omega)), qo (decide_eq_true ⟨by omega, by omega⟩), qo (dix (by omega)), qo (decide_eq_true ⟨by omega, by omega⟩)]
          exact ⟨_, rfl, ⟨i + 1, rfl, by omega, q.add h hj ej (hD i c) f2 f3 rfl (fun k => aox (F := D.f) (f := qD.mk (j : Int) (-1) (a.Doors.f i).Rests)) rfl fun k => ajg _ _ _ _⟩, by dsimp only; omega⟩
      · obtain rfl : i = a.Doors.n := by omega
        rw [qm (dge (Nat.le_refl _))]
        exact ⟨_, rfl, _, rfl, q⟩)
    (F0, t0, 0) ⟨0, rfl, by omega, ⟨by dsimp only; omega, by dsimp only; omega, fun k hk => by dsimp only at hk; omega, fun j hj b => by dsimp only; rw [h0]; rfl⟩⟩
  obtain ⟨z, hz, y, rfl, g⟩ := key
  exact ⟨y.1, y.2, by rw [abR]; exact hz, g⟩
end Go.Proofs.YtimkpfnbkclclaaGreat.Ab
namespace Go.Proofs.YtimkpfnbkclclaaGreat.Ab
open Go
def In (l : Sq Int) (v : Int) : Prop := ∃ j, j < l.n ∧ l.f j = v
def Dis (l : Sq Int) : Prop := ∀ i j, i < l.n → j < l.n → l.f i = l.f j → i = j
theorem php : ∀ (n k : Nat) (f : Nat → Nat), (∀ i, i < k → f i < n) → (∀ i j, i < k → j < k → f i = f j → i = j) → k ≤ n := by
  intro n
  induction n with
  | zero =>
    intro k f h _
    rcases Nat.eq_zero_or_pos k with c | c
    · omega
    · have := h 0 c; omega
  | succ n ih =>
    intro k f h hi
    by_cases c : ∃ i, i < k ∧ f i = n
    · obtain ⟨i0, h0, e0⟩ := c
      have := ih (k - 1) (fun i => f (if i < i0 then i else i + 1)) (fun i hk => by
        split
        · have h1 := h i (by omega)
          have h2 : f i ≠ n := fun e => by have := hi i i0 (by omega) h0 (by omega); omega
          omega
        · have h1 := h (i + 1) (by omega)
          have h2 : f (i + 1) ≠ n := fun e => by have := hi (i + 1) i0 (by omega) h0 (by omega); omega
          omega) (fun i j h1 h2 e => by
        split at e <;> split at e
        · exact hi i j (by omega) (by omega) e
        · have := hi i (j + 1) (by omega) (by omega) e; omega
        · have := hi (i + 1) j (by omega) (by omega) e; omega
        · have := hi (i + 1) (j + 1) (by omega) (by omega) e; omega)
      omega
    · have := ih k f (fun i hk => by
        have h1 := h i hk
        have h2 : f i ≠ n := fun e => c ⟨i, hk, e⟩
        omega) hi
      omega
theorem Dis.le {l : Sq Int} (h : Dis l) {n : Nat} (hb : ∀ v, In l v → 0 ≤ v ∧ v < n) : l.n ≤ n :=
  php n l.n (fun i => (l.f i).toNat) (fun i hi => by have := hb _ ⟨i, hi, rfl⟩; omega) (fun i j hi hj e => by
    have h1 := hb _ ⟨i, hi, rfl⟩
    have h2 := hb _ ⟨j, hj, rfl⟩
    exact h i j hi hj (by omega))
structure Pm (l r : Sq Int) : Prop where
  n : r.n = l.n
  d : Dis l → Dis r
  i : ∀ v, In r v ↔ In l v
theorem Pm.refl (l : Sq Int) : Pm l l := ⟨rfl, id, fun _ => Iff.rfl⟩
theorem Pm.swap {l r : Sq Int} (h : Pm l r) {a b : Nat} (ha : a < r.n) (hb : b < r.n) (hne : a ≠ b) {r' : Sq Int} (hn : r'.n = r.n) (hf : ∀ k, r'.f k = if k = a then r.f b else if k = b then r.f a else r.f k) : Pm l r' := by
  have fa : r'.f a = r.f b := by rw [hf, if_pos rfl]
  have fb : r'.f b = r.f a := by rw [hf, if_neg (Ne.symm hne), if_pos rfl]
  have fo : ∀ k, k ≠ a → k ≠ b → r'.f k = r.f k := fun k h1 h2 => by rw [hf, if_neg h1, if_neg h2]
  refine ⟨by rw [hn, h.n], fun hd => ?_, fun v => ?_⟩
  · have hr := h.d hd
    intro i j hi hj e
    rw [hn] at hi hj
    have ht : ∀ k, r'.f k = r.f (if k = a then b else if k = b then a else k) := fun k => by
      rw [hf]
      split
      · rfl
      · split <;> rfl
    rw [ht i, ht j] at e
    have := hr _ _ (by split <;> (try split) <;> omega) (by split <;> (try split) <;> omega) e
    split at this <;> (try split at this) <;> (try split at this) <;> (try split at this) <;> omega
  · rw [← h.i v]
    constructor
    · rintro ⟨j, hj, e⟩
      rw [hn] at hj
      rw [hf] at e
      split at e
      · exact ⟨b, hb, e⟩
      · split at e
        · exact ⟨a, ha, e⟩
        · exact ⟨j, hj, e⟩
    · rintro ⟨j, hj, e⟩
      by_cases c1 : j = a
      · subst c1; exact ⟨b, by omega, by rw [fb]; exact e⟩
      · by_cases c2 : j = b
        · subst c2; exact ⟨a, by omega, by rw [fa]; exact e⟩
        · exact ⟨j, by omega, by rw [fo j c1 c2]; exact e⟩
def Edg (R : Sq qC) (u v : Int) : Prop := ∃ i, i < R.n ∧ (R.f i).Closed = false ∧ (((R.f i).From = u ∧ (R.f i).To = v) ∨ ((R.f i).From = v ∧ (R.f i).To = u))
theorem Edg.symm {R : Sq qC} {u v : Int} (h : Edg R u v) : Edg R v u := by
  obtain ⟨i, h1, h2, h3⟩ := h
  exact ⟨i, h1, h2, h3.symm⟩
def Cl (R : Sq qC) (C : Int → Prop) : Prop := ∀ u v, Edg R u v → C u → C v
def Conn (R : Sq qC) (u v : Int) : Prop := ∀ C, Cl R C → C u → C v
theorem Conn.refl (R : Sq qC) (u : Int) : Conn R u u := fun _ _ h => h
theorem Conn.trans {R : Sq qC} {u v w : Int} (h : Conn R u v) (k : Conn R v w) : Conn R u w := fun C hC hu => k C hC (h C hC hu)
theorem Conn.edg {R : Sq qC} {u v w : Int} (h : Conn R u v) (k : Edg R v w) : Conn R u w := fun C hC hu => hC _ _ k (h C hC hu)
theorem Conn.symm {R : Sq qC} {u v : Int} (h : Conn R u v) : Conn R v u :=
  h (fun x => Conn R x u) (fun _ _ e hx C hC hy => hx C hC (hC _ _ e.symm hy)) (.refl R u)
theorem Conn.cl (R : Sq qC) (u : Int) : Cl R (Conn R u) := fun _ _ e h => h.edg e
theorem Conn.mono {R R' : Sq qC} (h : ∀ u v, Edg R u v → Edg R' u v) {u v : Int} (k : Conn R u v) : Conn R' u v := fun C hC hu => k C (fun a b e => hC a b (h a b e)) hu
theorem Edg.rng {m : qI} (ok : aja m) {u v : Int} (e : Edg m.Roads u v) : (0 ≤ u ∧ u < m.Places.n) ∧ 0 ≤ v ∧ v < m.Places.n := by
  obtain ⟨i, i1, i2, i3⟩ := e
  have := ai2 ok i1
  rcases i3 with ⟨rfl, rfl⟩ | ⟨rfl, rfl⟩ <;> omega
def CutM (m : qI) (v : Int) : Prop := 0 ≤ v ∧ v < m.Places.n ∧ ∀ w : Int, 0 ≤ w → w < m.Places.n → Conn m.Roads v w → (m.Places.f w.toNat).Surface = false
def Aw (m : qI) (v : Int) : Prop := ∃ w : Int, 0 ≤ w ∧ w < m.Places.n ∧ Conn m.Roads v w ∧ (m.Places.f w.toNat).Surface = true
theorem ape {m : qI} {v : Int} (h0 : 0 ≤ v) (h1 : v < m.Places.n) : CutM m v ↔ ¬ Aw m v := by
  constructor
  · rintro ⟨_, _, h⟩ ⟨w, w0, w1, c, e⟩
    have := h w w0 w1 c
    rw [e] at this
    cases this
  · intro h
    refine ⟨h0, h1, fun w w0 w1 c => ?_⟩
    cases e : (m.Places.f w.toNat).Surface with
    | false => rfl
    | true => exact absurd ⟨w, w0, w1, c, e⟩ h
theorem Aw.edge {m : qI} {u v : Int} (e : Edg m.Roads u v) : Aw m u ↔ Aw m v :=
  ⟨fun ⟨w, w0, w1, c, s⟩ => ⟨w, w0, w1, ((Conn.refl _ _).edg e.symm).trans c, s⟩, fun ⟨w, w0, w1, c, s⟩ => ⟨w, w0, w1, ((Conn.refl _ _).edg e).trans c, s⟩⟩
theorem Aw.surface {m : qI} {v : Int} (h0 : 0 ≤ v) (h1 : v < m.Places.n) (h : (m.Places.f v.toNat).Surface = true) : Aw m v := ⟨v, h0, h1, .refl _ _, h⟩
end Go.Proofs.YtimkpfnbkclclaaGreat.Ab
