/- Stage 12: Turns. -/
import Derived.Test.YtmfiagdelnddkaaGreatTE
import Derived.Test.YtmfiagdelnddkaaGreatTB
import Derived.Test.YtmfiagdelnddkaaGreatTV
import Derived.Test.YtmfiagdelnddkaaGreatXkt
namespace Go.Proofs.YtmfiagdelnddkaaGreat.Ab
open Go
def ai6 (r : aB) : aB := { r with Lift := ⟨-r.Lift.High, -r.Lift.Low⟩ }
def aki (f : SFan) : SFan := { f with Back := !f.Back }
theorem aee (c1 c2 : Sq Int) (P : Sq ay) (R0 : Sq aB) (F : Sq SFan) (D : Sq aC) (l : Sq Int) (P2 : Sq ay) (R : Sq aB) (hn : R.n ≤ 1000) (hL : ∀ j, j < R.n → -10000000000 ≤ (R.f j).Lift.Low ∧ (R.f j).Lift.Low ≤ (R.f j).Lift.High ∧ (R.f j).Lift.High ≤ 10000000000) :
    ∃ Y, yY c1 c2 P R0 F D l P2 R 0 = some (.inl Y) ∧ Y.n = R.n ∧ ∀ j, j < R.n → Y.f j = ai6 (R.f j) := by
  have key := bH (step := fun v : Sq aB × Int => kP c1 c2 P R0 F D l P2 v.1 v.2)
    (fun v => ∃ k : Nat, v.2 = k ∧ k ≤ R.n ∧ v.1.n = R.n ∧ (∀ j, j < k → v.1.f j = ai6 (R.f j)) ∧ ∀ j, k ≤ j → v.1.f j = R.f j) (fun v => R.n - v.2.toNat)
    (fun z => ∃ Y, z = .inl Y ∧ Y.n = R.n ∧ ∀ j, j < R.n → Y.f j = ai6 (R.f j)) (fun v hv => by
      obtain ⟨Y, x⟩ := v
      obtain ⟨k, h1, hk, h2, h3, h4⟩ := hv
      dsimp only at h1 h2 h3 h4 ⊢
      subst h1
      unfold kP
      rcases Nat.lt_or_ge k R.n with hi | hi
      · have own := h4 k (Nat.le_refl _)
        have lf := hL k hi
        rw [aA (dlt (by omega)), aA (dix (by omega)), aF, aQ (by omega), own, aO (x := 0 - (R.f k).Lift.High) (by omega) (by omega), aO (x := 0 - (R.f k).Lift.Low) (by omega) (by omega)]
        refine ⟨_, rfl, ⟨k + 1, rfl, hi, h2, fun j hj => ?_, fun j hj => ?_⟩, by dsimp only; omega⟩
        · dsimp only
          by_cases q : j = k
          · rw [Ar q, q]
            dsimp only [cond]
            rw [Int.zero_sub, Int.zero_sub]; rfl
          · rw [Aq q]; exact h3 j (by omega)
        · dsimp only
          rw [Aq (show j ≠ k by omega)]; exact h4 j (by omega)
      · obtain rfl : k = R.n := by omega
        rw [aD (dge (by omega))]
        exact ⟨_, rfl, _, rfl, h2, h3⟩)
    (R, 0) ⟨0, rfl, Nat.zero_le _, rfl, fun j hj => absurd hj (Nat.not_lt_zero _), fun _ _ => rfl⟩
  obtain ⟨z, hz, Y, rfl, r⟩ := key
  exact ⟨Y, by rw [K6]; exact hz, r⟩
theorem acS (c1 c2 : Sq Int) (P : Sq ay) (R0 : Sq aB) (F : Sq SFan) (D : Sq aC) (l : Sq Int) (P2 : Sq ay) (R2 : Sq aB) (hn : F.n ≤ 1000) :
    ∃ Y, xR c1 c2 P R0 F D l P2 R2 0 F = some (.inl Y) ∧ Y.n = F.n ∧ ∀ j, j < F.n → Y.f j = aki (F.f j) := by
  have key := bH (step := fun v : Int × Sq SFan => jZ c1 c2 P R0 F D l P2 R2 v.1 v.2)
    (fun v => ∃ k : Nat, v.1 = k ∧ k ≤ F.n ∧ v.2.n = F.n ∧ (∀ j, j < k → v.2.f j = aki (F.f j)) ∧ ∀ j, k ≤ j → v.2.f j = F.f j) (fun v => F.n - v.1.toNat)
    (fun z => ∃ Y, z = .inl Y ∧ Y.n = F.n ∧ ∀ j, j < F.n → Y.f j = aki (F.f j)) (fun v hv => by
      obtain ⟨x, Y⟩ := v
      obtain ⟨k, h1, hk, h2, h3, h4⟩ := hv
      dsimp only at h1 h2 h3 h4 ⊢
      subst h1
      unfold jZ
      rcases Nat.lt_or_ge k F.n with hi | hi
      · have own := h4 k (Nat.le_refl _)
        rw [aA (dlt hi), aA (dix (by omega)), aA (dix (by omega)), aF, aQ (by omega), own]
        refine ⟨_, rfl, ⟨k + 1, rfl, hi, h2, fun j hj => ?_, fun j hj => ?_⟩, by dsimp only; omega⟩
        · dsimp only
          by_cases q : j = k
          · rw [Ar q, q]; rfl
          · rw [Aq q]; exact h3 j (by omega)
        · dsimp only
          rw [Aq (show j ≠ k by omega)]; exact h4 j (by omega)
      · obtain rfl : k = F.n := by omega
        rw [aD (dge (by omega))]
        exact ⟨_, rfl, _, rfl, h2, h3⟩)
    (0, F) ⟨0, rfl, Nat.zero_le _, rfl, fun j hj => absurd hj (Nat.not_lt_zero _), fun _ _ => rfl⟩
  obtain ⟨z, hz, Y, rfl, r⟩ := key
  exact ⟨Y, by rw [Jg]; exact hz, r⟩
theorem acT (c1 c2 : Sq Int) (P : Sq ay) (R0 : Sq aB) (F : Sq SFan) (D : Sq aC) (l : Sq Int) (P2 : Sq ay) (R2 : Sq aB) (F2 : Sq SFan) (hn : l.n ≤ 1000) (hl : ∀ j, j < l.n → -10000 ≤ l.f j ∧ l.f j ≤ 10000) :
    ∃ Y, xS c1 c2 P R0 F D l P2 R2 F2 ⟨l.n, fun _ => 0⟩ 0 = some (.inl Y) ∧ Eqv (negS l) Y := by
  have key := bH (step := fun v : Sq Int × Int => j4 c1 c2 P R0 F D l P2 R2 F2 v.1 v.2)
    (fun v => ∃ k : Nat, v.2 = k ∧ k ≤ l.n ∧ v.1.n = l.n ∧ ∀ j, j < k → v.1.f j = -l.f j) (fun v => l.n - v.2.toNat)
    (fun z => ∃ Y, z = .inl Y ∧ Eqv (negS l) Y) (fun v hv => by
      obtain ⟨Y, x⟩ := v
      obtain ⟨k, h1, hk, h2, h3⟩ := hv
      dsimp only at h1 h2 h3 ⊢
      subst h1
      unfold j4
      rcases Nat.lt_or_ge k l.n with hi | hi
      · have lf := hl k hi
        rw [aA (dlt hi), aA (dix hi), aA (dix (by omega)), aF, aQ (by omega), aO (x := 0 - l.f k) (by omega) (by omega)]
        refine ⟨_, rfl, ⟨k + 1, rfl, hi, h2, fun j hj => ?_⟩, by dsimp only; omega⟩
        dsimp only
        by_cases q : j = k
        · rw [Ar q, q]; dsimp only [cond]; omega
        · rw [Aq q]; exact h3 j (by omega)
      · obtain rfl : k = l.n := by omega
        rw [aD (dge (by omega))]
        exact ⟨_, rfl, _, rfl, h2, h3⟩)
    (⟨l.n, fun _ => 0⟩, 0) ⟨0, rfl, Nat.zero_le _, rfl, fun j hj => absurd hj (Nat.not_lt_zero _)⟩
  obtain ⟨z, hz, Y, rfl, r⟩ := key
  exact ⟨Y, by rw [Jh]; exact hz, r⟩
theorem af8 {r q : aB} {n : Int} (h : Et r n = 0) (e1 : q.From = r.From) (e2 : q.To = r.To) (e3 : q.Length = r.Length) (e4 : q.Area = r.Area) (e5 : q.Rest = r.Rest) (e6 : q.Lift.Low = -r.Lift.High) (e7 : q.Lift.High = -r.Lift.Low) : Et q n = 0 := by
  unfold Et at h ⊢
  rw [e1, e2, e3, e4, e5, e6, e7]
  repeat' (split at h; · omega)
  rw [if_neg (by assumption), if_neg (by assumption), if_neg (by assumption), if_neg (by assumption), if_neg (by assumption), if_neg (by assumption), if_neg (by omega)]
theorem agb {r : aB} {n : Int} (h : Et r n = 0) : Et (ai6 r) n = 0 := af8 h rfl rfl rfl rfl rfl rfl rfl
theorem ahJ (codes : Sq Int) (hb : ∀ k, 0 ≤ codes.f k ∧ codes.f k ≤ 255) : (vg codes).get = some true := by
  obtain ⟨c, e0, hc⟩ := X7 codes hb
  obtain ⟨a, s, x, b, e1, b0, b1, md⟩ := rQ hc
  have np := md.np
  have n1 := md.n1
  have nr := md.nr
  have rt := md.right
  have ok := aW rt
  have nf := ok.nf
  have hL : ∀ j, j < a.Mine.Roads.n → -10000000000 ≤ (a.Mine.Roads.f j).Lift.Low ∧ (a.Mine.Roads.f j).Lift.Low ≤ (a.Mine.Roads.f j).Lift.High ∧ (a.Mine.Roads.f j).Lift.High ≤ 10000000000 := by
    obtain ⟨sh, s0, _, _, _, _, _, _, _, _, hl⟩ := md.e
    exact fun j hj => ⟨(hl j hj).l0, (hl j hj).l1, (hl j hj).l2⟩
  obtain ⟨l, i, e2, _, _, st⟩ := acy (hc.at b0 b1) md
  have ln := st.n
  have e3 : Hu a.Mine = some a.Mine := by
    rw [Td]; unfold Fw
    rw [aA (decide_eq_true ⟨by omega, by omega⟩), aA (decide_eq_true ⟨by omega, by omega⟩)]; rfl
  obtain ⟨R2, k1, rn, rf⟩ := aee s.Fans s.Doors a.Mine.Places a.Mine.Roads a.Fans a.Doors l a.Mine.Places a.Mine.Roads (by omega) hL
  obtain ⟨F2, k2, fn, ff⟩ := acS s.Fans s.Doors a.Mine.Places a.Mine.Roads a.Fans a.Doors l a.Mine.Places R2 (by omega)
  obtain ⟨d, k3, hd⟩ := acT s.Fans s.Doors a.Mine.Places a.Mine.Roads a.Fans a.Doors l a.Mine.Places R2 F2 (by omega) (fun j hj => st.f j (by omega))
  have mb : uV (aL.mk a.Mine.Places R2) := ⟨ok.m.np, by dsimp only; have := ok.m.nr; omega, ok.m.h, fun i hi => by
    dsimp only at hi ⊢
    rw [rf i (by omega)]
    exact agb (ok.m.r i (by omega))⟩
  have rb : aZ ⟨⟨a.Mine.Places, R2⟩, F2, a.Doors⟩ s = true := md.right2 (b := ⟨⟨a.Mine.Places, R2⟩, F2, a.Doors⟩) mb (by dsimp only; omega) fn (fun i hi => by dsimp only; rw [ff i hi]; exact ⟨rfl, rfl⟩) rfl
  have t : Turn a ⟨⟨a.Mine.Places, R2⟩, F2, a.Doors⟩ s := ⟨rt, rb, rfl, rn, rf, fn, ff, rfl⟩
  have h0 := st.start rt
  have h1 : dR ⟨⟨a.Mine.Places, R2⟩, F2, a.Doors⟩ s (negS l) = 0 := (Km t l).trans h0
  have tv := aeS t l
  have r1 := X8 a s l (by omega) (by omega)
  have r2 := ad7 ⟨⟨a.Mine.Places, R2⟩, F2, a.Doors⟩ s d (by dsimp only; omega) (by dsimp only; omega)
  unfold vg
  rw [get_bind e0, get_bind e1]
  dsimp only
  rw [get_bind e2]
  dsimp only
  rw [get_bind e3, aA (decide_eq_true ⟨by omega, by omega⟩), aI k1]
  dsimp only [Sum.elim]
  rw [aI k2]
  dsimp only [Sum.elim]
  rw [aA (decide_eq_true ⟨by omega, by omega, by omega, by omega⟩), aF, aI k3]
  dsimp only [Sum.elim]
  rw [get_bind r1, get_bind r2]
  rcases adK false hd h1 with ⟨g, g'⟩ | ⟨y, y', g, g', hy⟩
  · rw [g] at tv
    have t2 : (aS a s l true).2 = 2 := by rw [← (Prod.ext_iff.1 tv).2]
    have t1 : aS a s l true = (nilS, 2) := (zf (s := s) (up := true) h0).resolve_left (by rw [t2]; decide)
    have kl : qz nilS nilS 0 = some (.inl ()) := by
      rw [zP]
      refine (bI (x := .l ()) ?_).trans rfl
      unfold dV
      rw [aD (decide_eq_false (by show ¬ (0 : Int) < ((0 : Nat) : Int); omega))]; rfl
    rw [t1, g']
    dsimp only
    rw [aD (show ((2 : Int) != 2) = false from rfl), aD (by simp), aI kl]
    dsimp only [Sum.elim]
    rw [get_bind jm]; rfl
  · rw [g] at tv
    have t2 : (aS a s l true).2 = 0 := by rw [← (Prod.ext_iff.1 tv).2]
    obtain ⟨p, hp⟩ : ∃ p, aS a s l true = (p, 0) := ⟨_, Prod.ext rfl t2⟩
    have pr := (wI hp).sup.p
    have pn := pr.n
    rw [hp] at tv
    have ey : y = negS p := (Prod.ext_iff.1 tv).1
    subst ey
    have yn : y'.n = p.n := hy.n
    have kl : qz p y' 0 = some (.inl ()) := by
      rw [zP]
      refine (aX (step := fun v => dV p y' v) (n := p.n) (fun _ => none) (fun i hi => ?_) ?_ p.n 0 (Nat.zero_add _)).trans ?_
      · unfold dV
        have ev : y'.f i = -p.f i := hy.f i hi
        have pb := pr.f i hi
        rw [aA (dlt hi), aA (dix hi), aA (dix (by omega)), aF, ev, aO (x := 0 - -p.f i) (by omega) (by omega), aD (by simp), aQ (by omega)]; rfl
      · unfold dV
        rw [aD (dge (Nat.le_refl _))]; rfl
      · rw [dx fun _ _ _ => rfl]
    rw [hp, g']
    dsimp only
    rw [aD (show ((0 : Int) != 0) = false from rfl), aD (by rw [yn]; simp), aI kl]
    dsimp only [Sum.elim]
    rw [get_bind jm]; rfl
end Go.Proofs.YtmfiagdelnddkaaGreat.Ab
