/- Stage 12: what lies beyond the end of a list does not count; other airs with the same fans. -/
import Derived.Test.YtmfiagdelnddkaaGreatTA
import Derived.Test.YtmfiagdelnddkaaGreatXz
namespace Go.Proofs.YtmfiagdelnddkaaGreat.Ab
open Go
structure Eqv (l l' : Sq Int) : Prop where
  n : l'.n = l.n
  f : ∀ j, j < l.n → l'.f j = l.f j
theorem Eqv.set {l l' : Sq Int} (h : Eqv l l') (k : Nat) (v : Int) : Eqv (setS l k v) (setS l' k v) := ⟨h.n, fun j hj => by
  by_cases c : j = k
  · rw [c, CU, CU]
  · rw [om l' v c, om l v c]; exact h.f j hj⟩
theorem Eqv.prs {a : SAir} {l l' : Sq Int} (h : Eqv l l') (p : bQ a l) : bQ a l' := ⟨h.n.trans p.n, fun k hk => by
  rw [h.n] at hk
  rw [h.f k hk]; exact p.f k hk⟩
theorem agG {a : SAir} {s : au} (ok : RtOK a s) {P P' : Sq Int} (pn : P.n = a.Mine.Places.n) (h : Eqv P P') (pl p : Int) : NL a s P' pl p = NL a s P pl p ∧ NH a s P' pl p = NH a s P pl p := by
  refine ⟨jo fun i hi => ?_, jo fun i hi => ?_⟩
  all_goals
    have re := pO ok.m hi
    first | unfold coL | unfold coH
    rw [h.f _ (show (a.Mine.Roads.f i).To.toNat < P.n by omega), h.f _ (show (a.Mine.Roads.f i).From.toNat < P.n by omega)]
theorem agm {a : SAir} {s : au} (rt : aZ a s = true) {l l' : Sq Int} (h : Eqv l l') (p : bQ a l) {k : Nat} (hk : k < a.Mine.Places.n) (up : Bool) : iQ a s up l' k = iQ a s up l k := by
  have ok := aW rt
  have pa : PrOK a s l k := ⟨rt, p, by omega, by have := p.n; omega⟩
  have pb : PrOK a s l' k := ⟨rt, h.prs p, by omega, by have := (h.prs p).n; omega⟩
  cases up with
  | true =>
    have q := (tL pb).2
    rw [h.f k (by rw [p.n]; exact hk), show NL a s l' k = NL a s l k from funext fun x => (agG ok p.n h k x).1] at q
    exact q.uniq (tL pa).2
  | false =>
    have q := (mI pb).2
    rw [h.f k (by rw [p.n]; exact hk), show NH a s l' k = NH a s l k from funext fun x => (agG ok p.n h k x).2] at q
    exact q.uniq (mI pa).2
theorem aeU {a : SAir} {s : au} (rt : aZ a s = true) (up : Bool) : ∀ m k ch l l', k + m = a.Mine.Places.n → Eqv l l' → bQ a l →
    (bL a s up m k ch l = none ∧ bL a s up m k ch l' = none) ∨ ∃ c y y', bL a s up m k ch l = some (c, y) ∧ bL a s up m k ch l' = some (c, y') ∧ Eqv y y' ∧ bQ a y := by
  intro m
  induction m with
  | zero => intro k ch l l' hk h p; exact .inr ⟨ch, l, l', rfl, rfl, h, p⟩
  | succ m ih =>
    intro k ch l l' hk h p
    by_cases c : Fx a k
    · rw [pQ c, pQ c]
      exact ih (k + 1) ch l l' (by omega) h p
    · have e := agm rt h p (k := k) (by omega) up
      by_cases c2 : (iQ a s up l k).2 = true
      · have b0 := FJ (a := a) (s := s) (l := l) (k := k) ⟨rt, p, by omega, by have := p.n; omega⟩ up c2
        rw [qX c c2, qX c (by rw [e]; exact c2), e, h.f k (by have := p.n; omega)]
        exact ih (k + 1) _ _ _ (by omega) (h.set k _) (p.set k b0.1 b0.2)
      · exact .inl ⟨wM c c2, wM c (by rw [e]; exact c2)⟩
theorem adI {a : SAir} {s : au} (rt : aZ a s = true) (up : Bool) : ∀ r l l', Eqv l l' → bQ a l →
    (bW a s up r l = none ∧ bW a s up r l' = none) ∨ ∃ y y', bW a s up r l = some y ∧ bW a s up r l' = some y' ∧ Eqv y y' := by
  intro r
  induction r with
  | zero => intro l l' _ _; exact .inl ⟨rfl, rfl⟩
  | succ r ih =>
    intro l l' h p
    unfold bW
    rcases aeU rt up a.Mine.Places.n 0 false l l' (by omega) h p with ⟨e, e'⟩ | ⟨c, y, y', e, e', hy, py⟩
    · rw [e, e']; exact .inl ⟨rfl, rfl⟩
    · rw [e, e']
      cases c with
      | true => exact ih y y' hy py
      | false => exact .inr ⟨y, y', rfl, rfl, hy⟩
theorem adK {a : SAir} {s : au} (up : Bool) {l l' : Sq Int} (h : Eqv l l') (e : dR a s l = 0) :
    (aS a s l up = (nilS, 2) ∧ aS a s l' up = (nilS, 2)) ∨ ∃ y y', aS a s l up = (y, 0) ∧ aS a s l' up = (y', 0) ∧ Eqv y y' := by
  obtain ⟨rt, p, z⟩ := nT e
  have e' : dR a s l' = 0 := wU rt (h.prs p) fun i hi fi => by rw [h.f i (by rw [p.n]; exact hi)]; exact z i hi fi
  rcases adI rt up 200 l l' h p with ⟨g, g'⟩ | ⟨y, y', g, g', hy⟩
  · exact .inl ⟨bX e g, bX e' g'⟩
  · exact .inr ⟨y, y', d9 e g, d9 e' g', hy⟩
theorem MdD.right2 {a : SAir} {s : au} {x : dN} (h : MdD a s x) {b : SAir} (mb : uV b.Mine) (nr : a.Mine.Roads.n ≤ b.Mine.Roads.n) (fn : b.Fans.n = a.Fans.n)
    (ff : ∀ i, i < a.Fans.n → (b.Fans.f i).Road = (a.Fans.f i).Road ∧ (b.Fans.f i).Curve = (a.Fans.f i).Curve) (dd : b.Doors = a.Doors) : aZ b s = true := by
  obtain ⟨sh, s0, _, _, _, _, _, hE, dF, dD, _⟩ := h.e
  have n1 := hE.f.n
  have n2 := hE.d.n
  have n3 := dF.n
  have n4 := dD.n
  have hB : EqD b s0 := by
    refine ⟨by rw [fn]; exact hE.fn, by rw [dd]; exact hE.dn, ⟨by omega, fun i hi => ?_⟩, ?_⟩
    · rw [fn] at hi
      obtain ⟨f1, f2, f3⟩ := hE.f.f i hi
      obtain ⟨g1, g2⟩ := ff i hi
      have r0 := f1.r0
      have r1 := f1.r1
      exact ⟨⟨by rw [g1]; exact r0, by rw [g1]; omega, by rw [g2]; exact f1.c, by rw [g2]; exact f1.n⟩, f2, f3⟩
    · rw [dd]
      refine ⟨n2, fun i hi => ?_⟩
      obtain ⟨d1, d2, d3⟩ := hE.d.f i hi
      have r1 := d1.r1
      exact ⟨⟨d1.r0, by omega, d1.o, d1.c, d1.n0, d1.n1⟩, d2, d3⟩
  refine hB.right mb (by omega) (by rw [dd]; omega) (fun i hi => ?_) (fun i hi => ?_)
  · have := (hE.f.f i (by omega)).2
    rcases dF.f i (by omega) with e | e <;> omega
  · rw [dd] at hi ⊢
    have := (hE.d.f i hi).2
    rcases dD.f i (by omega) with e | e <;> omega
end Go.Proofs.YtmfiagdelnddkaaGreat.Ab
