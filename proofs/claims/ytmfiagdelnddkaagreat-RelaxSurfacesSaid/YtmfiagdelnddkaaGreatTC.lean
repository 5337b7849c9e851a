/- Stage 12, maths: a road more between two places of the surface. -/
import Derived.Test.YtmfiagdelnddkaaGreatTA
namespace Go.Proofs.YtmfiagdelnddkaaGreat.Ab
open Go
structure Ext (a b : SAir) (s : au) : Prop where
  ra : aZ a s = true
  rb : aZ b s = true
  n0 : 1 ≤ a.Mine.Places.n
  s0 : (a.Mine.Places.f 0).Surface = true
  pn : b.Mine.Places.n = a.Mine.Places.n + 1
  pf : ∀ j, j < a.Mine.Places.n → (b.Mine.Places.f j).Surface = (a.Mine.Places.f j).Surface
  ps : (b.Mine.Places.f a.Mine.Places.n).Surface = true
  rn : b.Mine.Roads.n = a.Mine.Roads.n + 1
  rf : ∀ j, j < a.Mine.Roads.n → b.Mine.Roads.f j = a.Mine.Roads.f j
  rl : (b.Mine.Roads.f a.Mine.Roads.n).From = 0 ∧ (b.Mine.Roads.f a.Mine.Roads.n).To = (a.Mine.Places.n : Int)
  fs : b.Fans = a.Fans
  ds : b.Doors = a.Doors
theorem ae9 {a b : SAir} {s : au} (t : Ext a b s) {i : Nat} (hi : i < a.Mine.Roads.n) : cK b s i = cK a s i := by
  funext x
  unfold cK
  rw [t.rf i hi, t.fs, t.ds]
theorem ahc {a b : SAir} {s : au} (t : Ext a b s) {i : Nat} (hi : i < a.Mine.Roads.n) (p : Int) : flL b s i p = flL a s i p := by
  have c := (Sz (aW t.rb) (i := i) (by rw [t.rn]; omega) p).2
  rw [ae9 t hi] at c
  have := c.eq (Sz (aW t.ra) hi p).2
  omega
theorem ahb {a b : SAir} {s : au} (t : Ext a b s) {i : Nat} (hi : i < a.Mine.Roads.n) (p : Int) : flH b s i p = flH a s i p := by
  have c := (Sy (aW t.rb) (i := i) (by rw [t.rn]; omega) p).2
  rw [ae9 t hi] at c
  exact c.eq (Sy (aW t.ra) hi p).2
theorem ajo {a b : SAir} {s : au} (t : Ext a b s) {u v : Int} (e : Edg a.Mine.Roads u v) : Edg b.Mine.Roads u v := by
  obtain ⟨i, h1, h2, h3⟩ := e
  exact ⟨i, by rw [t.rn]; omega, by rw [t.rf i h1]; exact h2, by rw [t.rf i h1]; exact h3⟩
theorem akr {a b : SAir} {s : au} (t : Ext a b s) {v : Int} (v0 : 0 ≤ v) (v1 : v < a.Mine.Places.n) : Aw b.Mine v ↔ Aw a.Mine v := by
  have n0 := t.n0
  constructor
  · rintro ⟨w, w0, w1, c, h⟩
    refine Classical.byContradiction fun na => ?_
    have inr : ∀ x, Conn a.Mine.Roads v x → 0 ≤ x ∧ x < a.Mine.Places.n := fun x cx => cx (fun x => 0 ≤ x ∧ x < a.Mine.Places.n) (fun x y e _ => ((e.rng (aW t.ra).m)).2) ⟨v0, v1⟩
    have no0 : ¬ Conn a.Mine.Roads v 0 := fun c0 => na ⟨0, by omega, by omega, c0, t.s0⟩
    have cw : Conn a.Mine.Roads v w := c (fun x => Conn a.Mine.Roads v x) (fun x y e cx => by
      obtain ⟨i, h1, h2, h3⟩ := e
      rw [t.rn] at h1
      rcases Nat.lt_or_ge i a.Mine.Roads.n with hi | hi
      · rw [t.rf i hi] at h2 h3
        exact cx.edg ⟨i, hi, h2, h3⟩
      · obtain rfl : i = a.Mine.Roads.n := by omega
        rw [t.rl.1, t.rl.2] at h3
        rcases h3 with ⟨rfl, _⟩ | ⟨_, rfl⟩
        · exact absurd cx no0
        · have := inr _ cx; omega) (Conn.refl _ _)
    have rw' := inr w cw
    have e := t.pf w.toNat (by omega)
    exact na ⟨w, rw'.1, rw'.2, cw, by rw [← e]; exact h⟩
  · rintro ⟨w, w0, w1, c, h⟩
    exact ⟨w, w0, by rw [t.pn]; omega, c.mono fun u v => ajo t, by rw [t.pf w.toNat (by omega)]; exact h⟩
theorem agC {a b : SAir} {s : au} (t : Ext a b s) {k : Nat} (hk : k < a.Mine.Places.n) : Fx b k ↔ Fx a k := by
  unfold Fx
  rw [t.pf k hk, akr t (v := k) (by omega) (by omega)]
theorem ajr {a b : SAir} {s : au} (t : Ext a b s) : Fx b a.Mine.Places.n := .inl t.ps
structure LA (a : SAir) (l l' : Sq Int) : Prop where
  n : l.n = a.Mine.Places.n
  n' : l'.n = a.Mine.Places.n + 1
  f : ∀ j, j < a.Mine.Places.n → l'.f j = l.f j
  z : l'.f a.Mine.Places.n = 0
theorem aky {a b : SAir} {s : au} (t : Ext a b s) {P P' : Sq Int} (h : LA a P P') {k : Nat} (hk : k < a.Mine.Places.n) (nf : ¬ Fx a k) (p : Int) : NL b s P' k p = NL a s P k p ∧ NH b s P' k p = NH a s P k p := by
  have k0 : (k : Int) ≠ 0 := fun e => nf (.inl (by rw [show k = 0 by omega]; exact t.s0))
  have go : ∀ i, i < a.Mine.Roads.n → coL b s P' k p i = coL a s P k p i ∧ coH b s P' k p i = coH a s P k p i := fun i hi => by
    have re := pO (aW t.ra).m hi
    unfold coL coH
    rw [t.rf i hi, h.f _ (show (a.Mine.Roads.f i).To.toNat < a.Mine.Places.n by omega), h.f _ (show (a.Mine.Roads.f i).From.toNat < a.Mine.Places.n by omega), ahc t hi, ahb t hi, ahc t hi, ahb t hi]
    exact ⟨rfl, rfl⟩
  have la : coL b s P' k p a.Mine.Roads.n = 0 ∧ coH b s P' k p a.Mine.Roads.n = 0 := by
    unfold coL coH
    rw [t.rl.1, t.rl.2]
    constructor
    · split
      · rfl
      · rw [if_neg (by omega), if_neg (by omega)]
    · split
      · rfl
      · rw [if_neg (by omega), if_neg (by omega)]
  unfold NL NH
  rw [t.rn]
  constructor
  · show sumN _ a.Mine.Roads.n + _ = _
    rw [la.1, jo fun i hi => (go i hi).1]; omega
  · show sumN _ a.Mine.Roads.n + _ = _
    rw [la.2, jo fun i hi => (go i hi).2]; omega
theorem LA.prs {a b : SAir} {s : au} (t : Ext a b s) {l l' : Sq Int} (h : LA a l l') (p : bQ a l) : bQ b l' := by
  refine ⟨by rw [h.n', t.pn], fun k hk => ?_⟩
  rw [h.n'] at hk
  rcases Nat.lt_or_ge k a.Mine.Places.n with c | c
  · rw [h.f k c]; exact p.f k (by rw [h.n]; exact c)
  · rw [show k = a.Mine.Places.n by omega, h.z]; omega
theorem LA.set {a : SAir} {l l' : Sq Int} (h : LA a l l') {k : Nat} (hk : k < a.Mine.Places.n) (v : Int) : LA a (setS l k v) (setS l' k v) := by
  refine ⟨h.n, h.n', fun j hj => ?_, ?_⟩
  · by_cases c : j = k
    · rw [c, CU, CU]
    · rw [om l' v c, om l v c]; exact h.f j hj
  · rw [om l' v (by omega)]; exact h.z
theorem ai0 {a b : SAir} {s : au} (t : Ext a b s) {l l' : Sq Int} (h : LA a l l') (p : bQ a l) {k : Nat} (hk : k < a.Mine.Places.n) (nf : ¬ Fx a k) (up : Bool) : iQ b s up l' k = iQ a s up l k := by
  have pa : PrOK a s l k := ⟨t.ra, p, by omega, by have := h.n; omega⟩
  have pb : PrOK b s l' k := ⟨t.rb, h.prs t p, by omega, by have := h.n'; omega⟩
  cases up with
  | true =>
    have q := (tL pb).2
    rw [h.f k hk, show NL b s l' k = NL a s l k from funext fun p => (aky t h hk nf p).1] at q
    exact q.uniq (tL pa).2
  | false =>
    have q := (mI pb).2
    rw [h.f k hk, show NH b s l' k = NH a s l k from funext fun p => (aky t h hk nf p).2] at q
    exact q.uniq (mI pa).2
theorem ahL {a b : SAir} {s : au} (t : Ext a b s) (up : Bool) : ∀ m k ch l l', k + m = a.Mine.Places.n → LA a l l' → bQ a l →
    (bL a s up m k ch l = none ∧ bL b s up (m + 1) k ch l' = none) ∨ ∃ c y y', bL a s up m k ch l = some (c, y) ∧ bL b s up (m + 1) k ch l' = some (c, y') ∧ LA a y y' ∧ bQ a y := by
  intro m
  induction m with
  | zero =>
    intro k ch l l' hk h p
    refine .inr ⟨ch, l, l', rfl, ?_, h, p⟩
    rw [pQ (by rw [show k = a.Mine.Places.n by omega]; exact ajr t)]; rfl
  | succ m ih =>
    intro k ch l l' hk h p
    have hk' : k < a.Mine.Places.n := by omega
    by_cases c : Fx a k
    · rw [pQ c, pQ ((agC t hk').2 c)]
      exact ih (k + 1) ch l l' (by omega) h p
    · have c' : ¬ Fx b k := fun q => c ((agC t hk').1 q)
      have e := ai0 t h p hk' c up
      by_cases c2 : (iQ a s up l k).2 = true
      · have b0 := FJ (a := a) (s := s) (l := l) (k := k) ⟨t.ra, p, by omega, by have := h.n; omega⟩ up c2
        rw [qX c c2, qX c' (by rw [e]; exact c2), e, h.f k hk']
        exact ih (k + 1) _ _ _ (by omega) (h.set hk' _) (p.set k b0.1 b0.2)
      · exact .inl ⟨wM c c2, wM c' (by rw [e]; exact c2)⟩
theorem af2 {a b : SAir} {s : au} (t : Ext a b s) (up : Bool) : ∀ r l l', LA a l l' → bQ a l →
    (bW a s up r l = none ∧ bW b s up r l' = none) ∨ ∃ y y', bW a s up r l = some y ∧ bW b s up r l' = some y' ∧ LA a y y' := by
  intro r
  induction r with
  | zero => intro l l' _ _; exact .inl ⟨rfl, rfl⟩
  | succ r ih =>
    intro l l' h p
    unfold bW
    rw [t.pn]
    rcases ahL t up a.Mine.Places.n 0 false l l' (by omega) h p with ⟨e, e'⟩ | ⟨c, y, y', e, e', hy, py⟩
    · rw [e, e']; exact .inl ⟨rfl, rfl⟩
    · rw [e, e']
      cases c with
      | true => exact ih y y' hy py
      | false => exact .inr ⟨y, y', rfl, rfl, hy⟩
theorem agl {a b : SAir} {s : au} (t : Ext a b s) {l l' : Sq Int} (h : LA a l l') (e : dR a s l = 0) : dR b s l' = 0 := by
  obtain ⟨_, p, z⟩ := nT e
  refine wU t.rb (h.prs t p) fun i hi fi => ?_
  rw [t.pn] at hi
  rcases Nat.lt_or_ge i a.Mine.Places.n with c | c
  · rw [h.f i c]; exact z i c ((agC t c).1 fi)
  · rw [show i = a.Mine.Places.n by omega]; exact h.z
theorem Vw {a b : SAir} {s : au} (t : Ext a b s) (up : Bool) {l l' : Sq Int} (h : LA a l l') (e : dR a s l = 0) :
    (aS a s l up = (nilS, 2) ∧ aS b s l' up = (nilS, 2)) ∨ ∃ y y', aS a s l up = (y, 0) ∧ aS b s l' up = (y', 0) ∧ LA a y y' := by
  have e' := agl t h e
  rcases af2 t up 200 l l' h (nT e).2.1 with ⟨g, g'⟩ | ⟨y, y', g, g', hy⟩
  · exact .inl ⟨bX e g, bX e' g'⟩
  · exact .inr ⟨y, y', d9 e g, d9 e' g', hy⟩
theorem agk {a b : SAir} {s : au} (t : Ext a b s) : (gZ a s = (⟨nilS, nilS⟩, 2) ∧ gZ b s = (⟨nilS, nilS⟩, 2)) ∨
    ((gZ a s).2 = 0 ∧ (gZ b s).2 = 0 ∧ LA a (gZ a s).1.Low (gZ b s).1.Low ∧ LA a (gZ a s).1.High (gZ b s).1.High) := by
  have h0 : LA a (xu a.Mine.Places.n) (xu b.Mine.Places.n) := ⟨rfl, t.pn, fun _ _ => rfl, rfl⟩
  unfold gZ
  rcases Vw t false h0 (Zn t.ra) with ⟨g, g'⟩ | ⟨y, y', g, g', hy⟩
  · rw [g, g']; exact .inl ⟨rfl, rfl⟩
  · rw [g, g']
    dsimp only
    rw [if_neg (show ¬ ((0 : Int) ≠ 0) from fun q => q rfl), if_neg (show ¬ ((0 : Int) ≠ 0) from fun q => q rfl)]
    have F := JZ g
    have e1 : dR a s y = 0 := wU t.ra F.pr fun i _ fi => F.fx i fi
    rcases Vw t true hy e1 with ⟨k, k'⟩ | ⟨u, u', k, k', hu⟩
    · rw [k, k']; exact .inl ⟨rfl, rfl⟩
    · rw [k, k']
      dsimp only
      rw [if_neg (show ¬ ((0 : Int) ≠ 0) from fun q => q rfl), if_neg (show ¬ ((0 : Int) ≠ 0) from fun q => q rfl)]
      have R := wI k
      have e2 : dR a s u = 0 := wU t.ra R.sup.p fun i _ fi => (R.fx i fi).trans (F.fx i fi)
      rcases Vw t false hu e2 with ⟨m, m'⟩ | ⟨v, v', m, m', hv⟩
      · rw [m, m']; exact .inl ⟨rfl, rfl⟩
      · rw [m, m']
        exact .inr ⟨rfl, rfl, hv, hu⟩
end Go.Proofs.YtmfiagdelnddkaaGreat.Ab
