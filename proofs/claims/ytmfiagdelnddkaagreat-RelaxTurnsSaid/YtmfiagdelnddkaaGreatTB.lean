/- Stage 12, maths: an air that is turned round. -/
import Derived.Test.YtmfiagdelnddkaaGreatTA
namespace Go.Proofs.YtmfiagdelnddkaaGreat.Ab
open Go
structure Turn (a b : SAir) (s : au) : Prop where
  ra : aZ a s = true
  rb : aZ b s = true
  pl : b.Mine.Places = a.Mine.Places
  rn : b.Mine.Roads.n = a.Mine.Roads.n
  rd : ∀ j, j < a.Mine.Roads.n → b.Mine.Roads.f j = { a.Mine.Roads.f j with Lift := ⟨-(a.Mine.Roads.f j).Lift.High, -(a.Mine.Roads.f j).Lift.Low⟩ }
  fn : b.Fans.n = a.Fans.n
  ff : ∀ j, j < a.Fans.n → b.Fans.f j = { a.Fans.f j with Back := !(a.Fans.f j).Back }
  dr : b.Doors = a.Doors
theorem acY {c : Sq aM} (ok : okC c) (b : Bool) {x : Int} (x0 : -1048577 ≤ x) (x1 : x ≤ 1048577) : mH c (!b) x = ⟨-(mH c b (-x)).High, -(mH c b (-x)).Low⟩ := by
  cases b with
  | false =>
    unfold mH
    rw [if_pos (by decide), if_neg (by decide), aO (x := 0 - x) (by omega) (by omega), Int.zero_sub]
    obtain ⟨h1, h2, h3⟩ := Fv ok (-x)
    unfold agt
    rw [aO (x := 0 - (prS c (-x)).High) (by omega) (by omega), aO (x := 0 - (prS c (-x)).Low) (by omega) (by omega), Int.zero_sub, Int.zero_sub]
  | true =>
    unfold mH
    rw [if_neg (by decide), if_pos (by decide), aO (x := 0 - -x) (by omega) (by omega), show 0 - -x = x by omega]
    obtain ⟨h1, h2, h3⟩ := Fv ok x
    unfold agt
    rw [aO (x := 0 - (prS c x).High) (by omega) (by omega), aO (x := 0 - (prS c x).Low) (by omega) (by omega), Int.zero_sub, Int.zero_sub]
    dsimp only
    rw [Int.neg_neg, Int.neg_neg]
theorem akf {f g : SFan} (ok : okC f.Curve) (h : g = { f with Back := !f.Back }) (st : Int) {x : Int} (x0 : -1048577 ≤ x) (x1 : x ≤ 1048577) : stS g st x = ⟨-(stS f st (-x)).High, -(stS f st (-x)).Low⟩ := by
  subst h
  have b1 := acY ok f.Back x0 x1
  have b2 := acY ok (!f.Back) x0 x1
  rw [Bool.not_not] at b2
  unfold stS
  dsimp only
  rw [Bool.not_not, b1, b2]
  split
  · rfl
  · split
    · rfl
    · split
      · rfl
      · unfold minI maxI
        dsimp only
        congr 1
        · repeat' split
          all_goals omega
        · repeat' split
          all_goals omega
theorem ake (lo hi x : Int) : sqS lo hi x = (-(sqS lo hi (-x)).2, -(sqS lo hi (-x)).1) := by
  unfold sqS
  rw [Int.neg_mul_neg]
  rcases Int.lt_trichotomy x 0 with h | h | h
  · rw [if_pos h, if_neg (by omega)]
  · subst h; simp
  · rw [if_neg (by omega), if_pos (by omega)]
    dsimp only
    rw [Int.neg_neg, Int.neg_neg]
theorem ahi {F G : Sq SFan} (ok : ∀ j, j < F.n → okC (F.f j).Curve) (h : ∀ j, j < F.n → G.f j = { F.f j with Back := !(F.f j).Back }) (s : Sq Int) (road : Int) {x : Int} (x0 : -1048577 ≤ x) (x1 : x ≤ 1048577) (b : Int × Int) :
    ∀ k, k ≤ F.n → fsum G s road x (-b.2, -b.1) k = (-(fsum F s road (-x) b k).2, -(fsum F s road (-x) b k).1) := by
  intro k
  induction k with
  | zero => intro _; rfl
  | succ k ih =>
    intro hk
    have e := ih (by omega)
    have t := akf (ok k (by omega)) (h k (by omega)) (s.f k) x0 x1
    unfold fsum
    rw [t, e, h k (by omega)]
    dsimp only
    split
    · dsimp only
      congr 1
      · omega
      · omega
    · rfl
theorem Si {a b : SAir} {s : au} (t : Turn a b s) {i : Nat} (hi : i < a.Mine.Roads.n) {x : Int} (x0 : -1048577 ≤ x) (x1 : x ≤ 1048577) : cK b s i x = (-(cK a s i (-x)).2, -(cK a s i (-x)).1) := by
  have ok := aW t.ra
  unfold cK
  rw [t.rd i hi, t.dr, t.fn]
  dsimp only
  rw [ake]
  have e := ahi (F := a.Fans) (G := b.Fans) (fun j hj => Hf (ok.f j hj).1) t.ff s.Fans i x0 x1 ((sqS (rsum a.Doors s.Doors i ((a.Mine.Roads.f i).Rest.Low, (a.Mine.Roads.f i).Rest.High) a.Doors.n).1 (rsum a.Doors s.Doors i ((a.Mine.Roads.f i).Rest.Low, (a.Mine.Roads.f i).Rest.High) a.Doors.n).2 (-x)).1 - (a.Mine.Roads.f i).Lift.High, (sqS (rsum a.Doors s.Doors i ((a.Mine.Roads.f i).Rest.Low, (a.Mine.Roads.f i).Rest.High) a.Doors.n).1 (rsum a.Doors s.Doors i ((a.Mine.Roads.f i).Rest.Low, (a.Mine.Roads.f i).Rest.High) a.Doors.n).2 (-x)).2 - (a.Mine.Roads.f i).Lift.Low) a.Fans.n (Nat.le_refl _)
  dsimp only at e
  rw [← e]
  congr 1
  dsimp only
  congr 1
  · omega
  · omega
theorem aiv {a b : SAir} {s : au} (t : Turn a b s) {i : Nat} (hi : i < a.Mine.Roads.n) (p : Int) : flL b s i (-p) = -(flH a s i p) := by
  have c := (Sy (aW t.ra) hi p).2
  have lo := c.lo
  have hh := c.hi
  have d := (Sz (aW t.rb) (i := i) (by rw [t.rn]; exact hi) (-p)).2
  have q : Cut (fun x => (cK b s i x).2 > -p) (-(flH a s i p) + 1) := ⟨by omega, by omega, fun x h0 h1 => by
      rw [Si t hi (by omega) (by omega)]
      have := c.t (-x) (by omega) (by omega)
      dsimp only at this ⊢
      omega, fun x h0 h1 => by
      rw [Si t hi (by omega) (by omega)]
      have := c.f (-x) (by omega) (by omega)
      dsimp only at this ⊢
      omega⟩
  have := d.eq q
  omega
theorem aiu {a b : SAir} {s : au} (t : Turn a b s) {i : Nat} (hi : i < a.Mine.Roads.n) (p : Int) : flH b s i (-p) = -(flL a s i p) := by
  have c := (Sz (aW t.ra) hi p).2
  have lo := c.lo
  have hh := c.hi
  have d := (Sy (aW t.rb) (i := i) (by rw [t.rn]; exact hi) (-p)).2
  have q : Cut (fun x => (cK b s i x).1 ≥ -p) (-(flL a s i p)) := ⟨by omega, by omega, fun x h0 h1 => by
      rw [Si t hi (by omega) (by omega)]
      have := c.t (-x) (by omega) (by omega)
      dsimp only at this ⊢
      omega, fun x h0 h1 => by
      rw [Si t hi (by omega) (by omega)]
      have := c.f (-x) (by omega) (by omega)
      dsimp only at this ⊢
      omega⟩
  exact d.eq q
def negS (l : Sq Int) : Sq Int := ⟨l.n, fun j => -l.f j⟩
theorem ai2 {g g' : Nat → Int} : ∀ {n : Nat}, (∀ i, i < n → g' i = -g i) → sumN g' n = -sumN g n := by
  intro n
  induction n with
  | zero => intro _; rfl
  | succ n ih =>
    intro h
    show sumN g' n + g' n = -(sumN g n + g n)
    rw [ih fun i hi => h i (by omega), h n (by omega)]
    omega
theorem ajw {a b : SAir} {s : au} (t : Turn a b s) (P : Sq Int) (pl p : Int) : NH b s (negS P) pl (-p) = -(NL a s P pl p) := by
  unfold NH NL
  rw [t.rn]
  refine ai2 fun i hi => ?_
  unfold coH coL
  rw [t.rd i hi]
  dsimp only
  split
  · rfl
  · split
    · show flH b s i (-p - -P.f (a.Mine.Roads.f i).To.toNat) = _
      rw [show -p - -P.f (a.Mine.Roads.f i).To.toNat = -(p - P.f (a.Mine.Roads.f i).To.toNat) by omega, aiu t hi]
    · split
      · show -(flL b s i (-P.f (a.Mine.Roads.f i).From.toNat - -p)) = _
        rw [show -P.f (a.Mine.Roads.f i).From.toNat - -p = -(P.f (a.Mine.Roads.f i).From.toNat - p) by omega, aiv t hi]
      · rfl
theorem bQ.neg {a b : SAir} {s : au} (t : Turn a b s) {l : Sq Int} (h : bQ a l) : bQ b (negS l) := ⟨by rw [t.pl]; exact h.n, fun k hk => by have := h.f k hk; show _ ≤ -l.f k ∧ -l.f k ≤ _; omega⟩
theorem abj {a b : SAir} {s : au} (t : Turn a b s) (k : Nat) : Fx b k ↔ Fx a k := by
  have e : ∀ u v, Edg b.Mine.Roads u v ↔ Edg a.Mine.Roads u v := fun u v => by
    constructor
    · rintro ⟨i, h1, h2, h3⟩
      rw [t.rn] at h1
      rw [t.rd i h1] at h2 h3
      exact ⟨i, h1, h2, h3⟩
    · rintro ⟨i, h1, h2, h3⟩
      refine ⟨i, by rw [t.rn]; exact h1, ?_, ?_⟩
      · rw [t.rd i h1]; exact h2
      · rw [t.rd i h1]; exact h3
  have aw : Aw b.Mine k ↔ Aw a.Mine k := by
    unfold Aw
    rw [t.pl]
    exact ⟨fun ⟨w, w0, w1, c, h⟩ => ⟨w, w0, w1, c.mono fun u v => (e u v).1, h⟩, fun ⟨w, w0, w1, c, h⟩ => ⟨w, w0, w1, c.mono fun u v => (e u v).2, h⟩⟩
  unfold Fx
  rw [t.pl, aw]
theorem ahU {a b : SAir} {s : au} (t : Turn a b s) {l : Sq Int} {k : Nat} (h : PrOK a s l k) : iQ b s false (negS l) k = (-(iQ a s true l k).1, (iQ a s true l k).2) := by
  have h' : PrOK b s (negS l) k := ⟨t.rb, h.Pp.neg t, h.p0, h.p1⟩
  refine (mI h').2.uniq ?_
  have q : ∀ x, NH b s (negS l) k x = -(NL a s l k (-x)) := fun x => by
    have := ajw t l k (-x)
    rw [Int.neg_neg] at this
    exact this
  have own : (negS l).f k = -l.f k := rfl
  rcases (tL h).2 with ⟨e, a1, a2, a3, a4⟩ | ⟨e, a1⟩
  · refine .inl ⟨e, ?_, ?_, ?_, fun x h1 h2 => ?_⟩
    · rw [own]; dsimp only; omega
    · dsimp only; omega
    · rw [q]; dsimp only; rw [Int.neg_neg]; omega
    · rw [own] at h1
      dsimp only at h2
      rw [q]
      have := a4 (-x) (by omega) (by omega)
      omega
  · refine .inr ⟨by rw [e]; rfl, fun x h1 h2 => ?_⟩
    rw [own] at h1
    rw [q]
    have := a1 (-x) (by omega) (by omega)
    omega
theorem aj0 (l : Sq Int) (k : Nat) (v : Int) : setS (negS l) k (-v) = negS (setS l k v) := by
  show Sq.mk l.n _ = Sq.mk l.n _
  congr 1
  funext j
  show cond (Nat.beq j k) (-v) (-l.f j) = -(cond (Nat.beq j k) v (l.f j))
  cases Nat.beq j k <;> rfl
theorem agc {a b : SAir} {s : au} (t : Turn a b s) : ∀ m k ch l, k + m = a.Mine.Places.n → bQ a l → bL b s false m k ch (negS l) = (bL a s true m k ch l).map fun y => (y.1, negS y.2) := by
  intro m
  induction m with
  | zero => intro k ch l _ _; rfl
  | succ m ih =>
    intro k ch l hk hl
    have pr : PrOK a s l k := ⟨t.ra, hl, by omega, by have := hl.n; omega⟩
    have st := ahU t pr
    by_cases c : Fx a k
    · rw [pQ c, pQ ((abj t k).2 c)]
      exact ih (k + 1) ch l (by omega) hl
    · have c' : ¬ Fx b k := fun q => c ((abj t k).1 q)
      by_cases c2 : (iQ a s true l k).2 = true
      · have b0 := FJ pr true c2
        rw [qX c c2, qX c' (by rw [st]; exact c2), st]
        dsimp only
        rw [aj0, show (-(iQ a s true l k).1 != (negS l).f k) = ((iQ a s true l k).1 != l.f k) from by
          show (-(iQ a s true l k).1 != -l.f k) = _
          rw [Bool.eq_iff_iff, bne_iff_ne, bne_iff_ne]
          omega]
        exact ih (k + 1) _ _ (by omega) (hl.set k b0.1 b0.2)
      · rw [wM c c2, wM c' (by rw [st]; exact c2)]; rfl
theorem aeR {a b : SAir} {s : au} (t : Turn a b s) : ∀ r l, bQ a l → bW b s false r (negS l) = (bW a s true r l).map negS := by
  intro r
  induction r with
  | zero => intro l _; rfl
  | succ r ih =>
    intro l hl
    have e := agc t a.Mine.Places.n 0 false l (by omega) hl
    unfold bW
    rw [t.pl, e]
    cases er : bL a s true a.Mine.Places.n 0 false l with
    | none => rfl
    | some y =>
      have p := (FB t.ra (fun _ _ _ => True) (fun _ _ _ _ _ _ => ⟨fun _ => trivial, fun _ _ => trivial⟩) a.Mine.Places.n 0 false l (by omega) hl trivial y er).1
      obtain ⟨c, y⟩ := y
      cases c with
      | true => exact ih y p
      | false => rfl
theorem Km {a b : SAir} {s : au} (t : Turn a b s) (st : Sq Int) : dR b s (negS st) = dR a s st := by
  have r : Rng (negS st) ↔ Rng st := ⟨fun h k hk => by have : _ ≤ -st.f k ∧ -st.f k ≤ _ := h k hk; omega, fun h k hk => by have := h k hk; show _ ≤ -st.f k ∧ -st.f k ≤ _; omega⟩
  have z : (∀ i, i < b.Mine.Places.n → Fx b i → (negS st).f i = 0) ↔ ∀ i, i < a.Mine.Places.n → Fx a i → st.f i = 0 := by
    rw [t.pl]
    exact ⟨fun h i hi f => by have : -st.f i = 0 := h i hi ((abj t i).2 f); omega, fun h i hi f => by have := h i hi ((abj t i).1 f); show -st.f i = 0; omega⟩
  have n : (negS st).n ≠ b.Mine.Places.n ↔ st.n ≠ a.Mine.Places.n := by rw [t.pl]; exact Iff.rfl
  unfold dR
  rw [if_neg (not_not_intro (Da t.ra)), if_neg (not_not_intro (Da t.rb)), if_neg (show ¬ aZ a s = false by rw [t.ra]; simp), if_neg (show ¬ aZ b s = false by rw [t.rb]; simp)]
  by_cases c1 : st.n ≠ a.Mine.Places.n
  · rw [if_pos c1, if_pos (n.2 c1)]
  · rw [if_neg c1, if_neg fun q => c1 (n.1 q)]
    by_cases c2 : Rng st
    · rw [if_neg (not_not_intro c2), if_neg (not_not_intro (r.2 c2))]
      by_cases c3 : ∀ i, i < a.Mine.Places.n → Fx a i → st.f i = 0
      · rw [if_pos c3, if_pos (z.2 c3)]
      · rw [if_neg c3, if_neg fun q => c3 (z.1 q)]
    · rw [if_pos c2, if_pos fun q => c2 (r.1 q)]
theorem aeS {a b : SAir} {s : au} (t : Turn a b s) (st : Sq Int) : aS b s (negS st) false = (negS (aS a s st true).1, (aS a s st true).2) := by
  by_cases c : dR a s st = 0
  · have hl := (nT c).2.1
    have c' : dR b s (negS st) = 0 := (Km t st).trans c
    have e := aeR t 200 st hl
    cases er : bW a s true 200 st with
    | none =>
      rw [er] at e
      rw [bX c er, bX c' e]; rfl
    | some l =>
      rw [er] at e
      rw [d9 c er, d9 c' e]
  · have c' : ¬ dR b s (negS st) = 0 := by rw [Km t st]; exact c
    rw [uK c, uK c', Km t st]; rfl
end Go.Proofs.YtmfiagdelnddkaaGreat.Ab
