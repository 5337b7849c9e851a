/- Stage 9, what is drawn: lifts that fit. -/
import Derived.Test.YtmfiagdelnddkaaGreatXo
namespace Go.Proofs.YtmfiagdelnddkaaGreat.Ab
open Go
theorem CvD.ok {c : Sq aM} (h : CvD c 3) (hn : c.n ≤ 4) : okC c := by
  refine ⟨h.n0, by omega, fun i hi => ?_, fun i h0 hi => h.m i h0 hi⟩
  have := h.f i hi
  unfold pOf
  dsimp only
  omega
theorem DrD.ok {r : Sq Int} (h : DrD r 3) (h0 : 2 ≤ r.n) (h1 : r.n ≤ 4) : RG r := by
  refine ⟨h0, by omega, fun i hi => ?_, h.m⟩
  have := h.f i hi
  omega
theorem YW {p : Nat → Int × Int} {n : Nat} (ok : OkP p n) {M : Int} (hM : ∀ i, i < n → (p i).2 ≤ M) (x : Int) : (vv p n x).2 ≤ M := by
  have h1 := ok.lo
  obtain ⟨_, _, _, _, _, h6⟩ := XU ok x
  rcases Bo ok x with ⟨_, e⟩ | ⟨_, e⟩ | ⟨a, b, _⟩
  · rw [e]; exact hM 0 (by omega)
  · rw [e]; exact hM (n - 1) (by omega)
  · have := hM (bD p n x - 1) (by omega)
    have := h6 a
    omega
theorem aaL {c : Sq aM} (ok : okC c) {M : Int} (hM : ∀ i, i < c.n → (c.f i).Pressure ≤ M) (b : Bool) (x : Int) : -M ≤ (mH c b x).Low ∧ (mH c b x).Low ≤ (mH c b x).High ∧ (mH c b x).High ≤ M := by
  unfold mH
  split
  · obtain ⟨h1, h2, h3⟩ := Fv ok (wr (0 - x))
    have h4 : (prS c (wr (0 - x))).High ≤ M := YW ok (M := M) hM (wr (0 - x))
    unfold agt
    rw [aO (x := 0 - (prS c (wr (0 - x))).High) (by omega) (by omega), aO (x := 0 - (prS c (wr (0 - x))).Low) (by omega) (by omega)]
    dsimp only
    omega
  · obtain ⟨h1, h2, h3⟩ := Fv ok x
    have h4 : (prS c x).High ≤ M := YW ok (M := M) hM x
    omega
structure EqD (a : SAir) (s : au) : Prop where
  fn : a.Fans.n ≤ 2
  dn : a.Doors.n ≤ 3
  f : FsD a.Fans s.Fans a.Mine.Roads.n
  d : DsD a.Doors s.Doors a.Mine.Roads.n
theorem adV {f : SFan} {nr : Nat} (h : FnD f nr) {st : Int} (h0 : 0 ≤ st) (h1 : st ≤ 2) (x : Int) : -3000 ≤ (stS f st x).Low ∧ (stS f st x).Low ≤ 3000 := by
  have ok := h.c.ok h.n
  have hM : ∀ i, i < f.Curve.n → (f.Curve.f i).Pressure ≤ 3000 := fun i hi => (h.c.f i hi).2.2.2
  unfold stS
  split
  · dsimp only; omega
  · split
    · have := aaL ok hM f.Back x; omega
    · rw [if_pos (by omega)]
      have := aaL ok hM (!f.Back) x; omega
theorem aaV {D : Sq aC} {s : Sq Int} {nr : Nat} (h : DsD D s nr) (road : Int) {b : Int × Int} (h0 : 0 ≤ b.1) (h1 : b.1 ≤ 22) : ∀ k, k ≤ D.n → 0 ≤ (rsum D s road b k).1 ∧ (rsum D s road b k).1 ≤ 22 + 900 * (k : Int) := by
  intro k
  induction k with
  | zero => intro _; show 0 ≤ b.1 ∧ b.1 ≤ _; omega
  | succ k ih =>
    intro hk
    obtain ⟨i1, i2⟩ := ih (by omega)
    obtain ⟨d1, d2, d3⟩ := h.f k (by omega)
    unfold rsum
    split
    · unfold rsS
      rw [if_pos d2]
      have := d1.c.f (s.f k).toNat (by omega)
      dsimp only; omega
    · omega
theorem aaN {F : Sq SFan} {s : Sq Int} {nr : Nat} (h : FsD F s nr) (road x : Int) (b : Int × Int) : ∀ k, k ≤ F.n → b.2 - 3000 * (k : Int) ≤ (fsum F s road x b k).2 ∧ (fsum F s road x b k).2 ≤ b.2 + 3000 * (k : Int) := by
  intro k
  induction k with
  | zero => intro _; show b.2 - _ ≤ b.2 ∧ b.2 ≤ _; omega
  | succ k ih =>
    intro hk
    obtain ⟨i1, i2⟩ := ih (by omega)
    obtain ⟨d1, d2, d3⟩ := h.f k (by omega)
    have := adV d1 d2 d3 x
    unfold fsum
    split
    · dsimp only; omega
    · omega
theorem ait {a : SAir} {s : au} (h : EqD a s) (c0 : Sq Int) (c1 : Int) (R : Sq aB) (p q : Sq Int) (road : Int) (rn : Nat) (x rest : Int) (h0 : 0 ≤ rest) (h1 : rest ≤ 22) :
    Lu x c0 c1 a.Mine.Places R a.Fans a.Doors s.Fans s.Doors p q road rn rest 0 = some (.inl (rsum a.Doors s.Doors road (rest, 0) a.Doors.n).1) := by
  have hd := h.dn
  have hs := h.d.n
  rw [X3]
  refine yI (step := fun v : Int × Int => qD x c0 c1 a.Mine.Places R a.Fans a.Doors s.Fans s.Doors p q road rn v.1 v.2) (z := .l (rsum a.Doors s.Doors road (rest, 0) a.Doors.n).1)
    (fun k => ((rsum a.Doors s.Doors road (rest, 0) k).1, ((k : Nat) : Int))) a.Doors.n (fun k hk => ?_) ?_
  · unfold qD
    dsimp only
    obtain ⟨d1, d2, d3⟩ := h.d.f k hk
    have e := aaV h.d road (b := (rest, 0)) h0 h1 k (by omega)
    have ok := d1.c.ok d1.n0 d1.n1
    have rin := aft ok (st := s.Doors.f k) (by omega) d3
    rw [aA (dlt hk), aA (dix hk), aF, aQ (by omega)]
    by_cases c : (a.Doors.f k).Road = road
    · rw [aA (by simp [c]), aA (dix hk), aA (dix (by omega)), get_bind (V6 ok (by omega) d3), aO (x := (rsum a.Doors s.Doors road (rest, 0) k).1 + (rsS (a.Doors.f k).Rests (s.Doors.f k)).Low) (by omega) (by omega)]
      rw [show rsum a.Doors s.Doors road (rest, 0) (k + 1) = ((rsum a.Doors s.Doors road (rest, 0) k).1 + (rsS (a.Doors.f k).Rests (s.Doors.f k)).Low, (rsum a.Doors s.Doors road (rest, 0) k).2 + (rsS (a.Doors.f k).Rests (s.Doors.f k)).High) from if_pos c]
      rfl
    · rw [aD (by simp [c]), show rsum a.Doors s.Doors road (rest, 0) (k + 1) = rsum a.Doors s.Doors road (rest, 0) k from if_neg c]
      rfl
  · unfold qD
    dsimp only
    rw [aD (dge (Nat.le_refl _))]; rfl
theorem ag9 {a : SAir} {s : au} (h : EqD a s) (c0 : Sq Int) (c1 : Int) (R : Sq aB) (p q : Sq Int) (road : Int) (rn : Nat) (x y : Int) (h0 : -1000000000000 ≤ y) (h1 : y ≤ 1000000000000) :
    Iu x c0 c1 a.Mine.Places R a.Fans a.Doors s.Fans s.Doors p q road rn y 0 = some (.inl (fsum a.Fans s.Fans road x (0, y) a.Fans.n).2) := by
  have hd := h.fn
  have hs := h.f.n
  rw [Wq]
  refine yI (step := fun v : Int × Int => oH x c0 c1 a.Mine.Places R a.Fans a.Doors s.Fans s.Doors p q road rn v.1 v.2) (z := .l (fsum a.Fans s.Fans road x (0, y) a.Fans.n).2)
    (fun k => ((fsum a.Fans s.Fans road x (0, y) k).2, ((k : Nat) : Int))) a.Fans.n (fun k hk => ?_) ?_
  · unfold oH
    dsimp only
    obtain ⟨d1, d2, d3⟩ := h.f.f k hk
    have e := aaN h.f road x (0, y) k (by omega)
    have ok := d1.c.ok d1.n
    have rin := adV d1 d2 d3 x
    rw [aA (dlt hk), aA (dix hk), aF, aQ (by omega)]
    by_cases c : (a.Fans.f k).Road = road
    · rw [aA (by simp [c]), aA (dix hk), aA (dix (by omega)), get_bind (Ti ok _ _), aO (x := (fsum a.Fans s.Fans road x (0, y) k).2 - (stS (a.Fans.f k) (s.Fans.f k) x).Low) (by omega) (by omega)]
      rw [show fsum a.Fans s.Fans road x (0, y) (k + 1) = ((fsum a.Fans s.Fans road x (0, y) k).1 - (stS (a.Fans.f k) (s.Fans.f k) x).High, (fsum a.Fans s.Fans road x (0, y) k).2 - (stS (a.Fans.f k) (s.Fans.f k) x).Low) from if_pos c]
      rfl
    · rw [aD (by simp [c]), show fsum a.Fans s.Fans road x (0, y) (k + 1) = fsum a.Fans s.Fans road x (0, y) k from if_neg c]
      rfl
  · unfold oH
    dsimp only
    rw [aD (dge (Nat.le_refl _))]; rfl
def sgn (B x : Int) : Int := if x < 0 then -(B * (x * x)) else B * (x * x)
theorem alo {B x : Int} (h0 : 0 ≤ B) (h1 : B ≤ 100000) (x0 : -300 ≤ x) (x1 : x ≤ 300) : wr (wr (B * (if x < wr (0 - x) then wr (0 - x) else x)) * x) = sgn B x ∧ -9000000000 ≤ sgn B x ∧ sgn B x ≤ 9000000000 := by
  have w0 : wr (0 - x) = -x := by rw [aO (by omega) (by omega)]; omega
  have hq : 0 ≤ x * x ∧ x * x ≤ 90000 := by
    rcases Int.le_total 0 x with h | h
    · have := Int.mul_le_mul x1 x1 h (show (0 : Int) ≤ 300 by omega)
      exact ⟨Int.mul_nonneg h h, by omega⟩
    · have := Int.mul_le_mul (show -x ≤ 300 by omega) (show -x ≤ 300 by omega) (by omega) (show (0 : Int) ≤ 300 by omega)
      rw [Int.neg_mul_neg] at this
      exact ⟨Int.mul_nonneg_of_nonpos_of_nonpos h h, by omega⟩
  have hB : 0 ≤ B * (x * x) ∧ B * (x * x) ≤ 9000000000 := by
    have := Int.mul_le_mul h1 hq.2 hq.1 (show (0 : Int) ≤ 100000 by omega)
    exact ⟨Int.mul_nonneg h0 hq.1, by omega⟩
  rw [w0]
  unfold sgn
  by_cases c : x < 0
  · rw [if_pos (show x < -x by omega), if_pos c]
    have l := Int.mul_le_mul h1 (show -x ≤ 300 by omega) (by omega) (show (0 : Int) ≤ 100000 by omega)
    have l0 := Int.mul_nonneg h0 (show 0 ≤ -x by omega)
    rw [aO (x := B * -x) (by omega) (by omega)]
    have e : B * -x * x = -(B * (x * x)) := by rw [Int.mul_neg, Int.neg_mul, Int.mul_assoc]
    rw [e, aO (by omega) (by omega)]
    omega
  · rw [if_neg (show ¬ x < -x by omega), if_neg c]
    have l := Int.mul_le_mul h1 x1 (by omega) (show (0 : Int) ≤ 100000 by omega)
    have l0 := Int.mul_nonneg h0 (show 0 ≤ x by omega)
    rw [aO (x := B * x) (by omega) (by omega), Int.mul_assoc, aO (by omega) (by omega)]
    omega
structure LfD (a : SAir) (s : au) (x : dN) (j : Nat) (L : aK) : Prop where
  e : ∃ rest u v : Int, (a.Mine.Roads.f j).Rest.Low ≤ rest ∧ rest ≤ (a.Mine.Roads.f j).Rest.High ∧ 0 ≤ u ∧ u ≤ 29 ∧ 0 ≤ v ∧ v ≤ 29 ∧
    L = ⟨(fsum a.Fans s.Fans j (x.Flows.f j) (0, sgn (rsum a.Doors s.Doors j (rest, 0) a.Doors.n).1 (x.Flows.f j) - (x.Pressures.f (a.Mine.Roads.f j).From.toNat - x.Pressures.f (a.Mine.Roads.f j).To.toNat)) a.Fans.n).2 - u,
      (fsum a.Fans s.Fans j (x.Flows.f j) (0, sgn (rsum a.Doors s.Doors j (rest, 0) a.Doors.n).1 (x.Flows.f j) - (x.Pressures.f (a.Mine.Roads.f j).From.toNat - x.Pressures.f (a.Mine.Roads.f j).To.toNat)) a.Fans.n).2 + v⟩
  l0 : -10000000000 ≤ L.Low
  l1 : L.Low ≤ L.High
  l2 : L.High ≤ 10000000000
theorem acL {c : aJ} (hc : CdOK c) {a : SAir} {s : au} {x : dN} (h : EqD a s) (hR : a.Mine.Roads.n ≤ 1000) (hq : x.Flows.n = a.Mine.Roads.n) {np : Nat} (hp : x.Pressures.n = np) (hpv : ∀ k, k < np → -4000 ≤ x.Pressures.f k ∧ x.Pressures.f k ≤ 4000)
    (hr : ∀ j, j < a.Mine.Roads.n → RoD (a.Mine.Roads.f j) (x.Flows.f j) np) :
    ∃ b R, zB c a s x = some (b, R) ∧ 0 ≤ b ∧ b ≤ 300 ∧ R.n = a.Mine.Roads.n ∧ ∀ j, j < a.Mine.Roads.n → R.f j = { a.Mine.Roads.f j with Lift := (R.f j).Lift } ∧ LfD a s x j (R.f j).Lift := by
  have hdn := h.dn
  have hfn := h.fn
  rw [acK]; unfold Qm
  have key := bH (step := fun v : Int × Sq aB × Int => wX c.l_ a.Mine.Places a.Fans a.Doors s.Fans s.Doors x.Pressures x.Flows v.1 v.2.1 v.2.2)
    (fun v => 0 ≤ v.1 ∧ v.1 ≤ 300 ∧ 0 ≤ v.2.2 ∧ v.2.2 ≤ a.Mine.Roads.n ∧ v.2.1.n = a.Mine.Roads.n ∧ ∀ j, j < a.Mine.Roads.n → v.2.1.f j = { a.Mine.Roads.f j with Lift := (v.2.1.f j).Lift } ∧ ((j : Int) < v.2.2 → LfD a s x j (v.2.1.f j).Lift)) (fun v => a.Mine.Roads.n - v.2.2.toNat)
    (fun z => ∃ y, z = .inl y ∧ 0 ≤ y.1 ∧ y.1 ≤ 300 ∧ y.2.n = a.Mine.Roads.n ∧ ∀ j, j < a.Mine.Roads.n → y.2.f j = { a.Mine.Roads.f j with Lift := (y.2.f j).Lift } ∧ LfD a s x j (y.2.f j).Lift) (fun v hv => by
      obtain ⟨b, R, i⟩ := v
      obtain ⟨h1, h2, h3, h4, h5, h6⟩ := hv
      dsimp only at h1 h2 h3 h4 h5 h6 ⊢
      obtain ⟨j, rfl⟩ : ∃ j : Nat, i = j := ⟨i.toNat, by omega⟩
      unfold wX
      by_cases hm : j < a.Mine.Roads.n
      · have r0 := hr j hm
        obtain ⟨s1, s2, s3, s4, sne, sd, s5, s6, _⟩ := r0
        have rd1 := sd.r0
        have rd2 := sd.r1
        have rd3 := sd.r2
        have eF : (R.f j).From = (a.Mine.Roads.f j).From := by rw [(h6 j hm).1]
        have eT : (R.f j).To = (a.Mine.Roads.f j).To := by rw [(h6 j hm).1]
        have eR : (R.f j).Rest = (a.Mine.Roads.f j).Rest := by rw [(h6 j hm).1]
        have z0 : wr (wr ((a.Mine.Roads.f j).Rest.High - (a.Mine.Roads.f j).Rest.Low) + 1) = (a.Mine.Roads.f j).Rest.High - (a.Mine.Roads.f j).Rest.Low + 1 := by rw [aO (x := (a.Mine.Roads.f j).Rest.High - (a.Mine.Roads.f j).Rest.Low) (by omega) (by omega)]; exact aO (by omega) (by omega)
        obtain ⟨w1, b1, f1, m1, o1, p1, q1, _⟩ := aV (hc.at h1 h2) ((a.Mine.Roads.f j).Rest.High - (a.Mine.Roads.f j).Rest.Low + 1) (by omega)
        have q1 := q1 (by omega)
        have z1 : wr ((a.Mine.Roads.f j).Rest.Low + w1) = (a.Mine.Roads.f j).Rest.Low + w1 := aO (by omega) (by omega)
        rw [aA (dlt (by omega)), aA (dix (by omega)), aA (dix (by omega)), aF, eF, eT, eR, z0, get_bind f1]
        dsimp only
        rw [z1, aI (ait h _ _ _ _ _ _ _ _ ((a.Mine.Roads.f j).Rest.Low + w1) (by omega) (by omega))]
        dsimp only [Sum.elim]
        rw [aA (decide_eq_true ⟨by omega, by omega⟩), aA (decide_eq_true ⟨by omega, by omega⟩)]
        have eB := aaV h.d j (b := ((a.Mine.Roads.f j).Rest.Low + w1, 0)) (by dsimp only; omega) (by dsimp only; omega) a.Doors.n (Nat.le_refl _)
        obtain ⟨g1, g2, g3⟩ := alo (B := (rsum a.Doors s.Doors j ((a.Mine.Roads.f j).Rest.Low + w1, 0) a.Doors.n).1) (x := x.Flows.f j) eB.1 (by omega) s5 s6
        have pF := hpv (a.Mine.Roads.f j).From.toNat (by omega)
        have pT := hpv (a.Mine.Roads.f j).To.toNat (by omega)
        rw [g1, aO (x := x.Pressures.f (a.Mine.Roads.f j).From.toNat - x.Pressures.f (a.Mine.Roads.f j).To.toNat) (by omega) (by omega), aO (x := sgn (rsum a.Doors s.Doors j ((a.Mine.Roads.f j).Rest.Low + w1, 0) a.Doors.n).1 (x.Flows.f j) - (x.Pressures.f (a.Mine.Roads.f j).From.toNat - x.Pressures.f (a.Mine.Roads.f j).To.toNat)) (by omega) (by omega)]
        rw [aI (ag9 h _ _ _ _ _ _ _ _ _ (by omega) (by omega))]
        dsimp only [Sum.elim]
        obtain ⟨w2, b2, f2, m2, o2, p2, q2, _⟩ := aV (hc.at m1 o1) 30 (by omega)
        have q2 := q2 (by omega)
        obtain ⟨w3, b3, f3, m3, o3, p3, q3, _⟩ := aV (hc.at m2 o2) 30 (by omega)
        have q3 := q3 (by omega)
        have eY := aaN h.f j (x.Flows.f j) (0, sgn (rsum a.Doors s.Doors j ((a.Mine.Roads.f j).Rest.Low + w1, 0) a.Doors.n).1 (x.Flows.f j) - (x.Pressures.f (a.Mine.Roads.f j).From.toNat - x.Pressures.f (a.Mine.Roads.f j).To.toNat)) a.Fans.n (Nat.le_refl _)
        have hL : ∀ L : aK, L = ⟨(fsum a.Fans s.Fans j (x.Flows.f j) (0, sgn (rsum a.Doors s.Doors j ((a.Mine.Roads.f j).Rest.Low + w1, 0) a.Doors.n).1 (x.Flows.f j) - (x.Pressures.f (a.Mine.Roads.f j).From.toNat - x.Pressures.f (a.Mine.Roads.f j).To.toNat)) a.Fans.n).2 - w2,
            (fsum a.Fans s.Fans j (x.Flows.f j) (0, sgn (rsum a.Doors s.Doors j ((a.Mine.Roads.f j).Rest.Low + w1, 0) a.Doors.n).1 (x.Flows.f j) - (x.Pressures.f (a.Mine.Roads.f j).From.toNat - x.Pressures.f (a.Mine.Roads.f j).To.toNat)) a.Fans.n).2 + w3⟩ → LfD a s x j L := by
          intro L hL
          refine ⟨⟨(a.Mine.Roads.f j).Rest.Low + w1, w2, w3, by omega, by omega, by omega, by omega, by omega, by omega, hL⟩, ?_, ?_, ?_⟩
          all_goals (rw [hL]; dsimp only; omega)
        generalize fsum a.Fans s.Fans j (x.Flows.f j) (0, sgn (rsum a.Doors s.Doors j ((a.Mine.Roads.f j).Rest.Low + w1, 0) a.Doors.n).1 (x.Flows.f j) - (x.Pressures.f (a.Mine.Roads.f j).From.toNat - x.Pressures.f (a.Mine.Roads.f j).To.toNat)) a.Fans.n = Y at eY hL ⊢
        rw [get_bind f2, get_bind f3, aQ (by omega)]
        dsimp only
        rw [aO (x := Y.2 - w2) (by omega) (by omega), aO (x := Y.2 + w3) (by omega) (by omega)]
        refine ⟨_, rfl, ⟨m3, o3, by dsimp only; omega, by dsimp only; omega, h5, fun k hk => ?_⟩, by dsimp only; omega⟩
        dsimp only
        by_cases c : k = j
        · subst c
          rw [Ar rfl]
          dsimp only [cond]
          refine ⟨?_, fun _ => hL _ rfl⟩
          rw [(h6 k hk).1]
        · rw [Aq c]
          dsimp only [cond]
          exact ⟨(h6 k hk).1, fun q => (h6 k hk).2 (by omega)⟩
      · rw [aD (dge (by omega))]
        exact ⟨_, rfl, _, rfl, h1, h2, h5, fun k hk => ⟨(h6 k hk).1, (h6 k hk).2 (by omega)⟩⟩)
    (c.at_, a.Mine.Roads, 0) ⟨hc.a0, hc.a1, by dsimp only; omega, by dsimp only; omega, rfl, fun k hk => ⟨rfl, fun q => by dsimp only at q; omega⟩⟩
  obtain ⟨z, hz, y, rfl, g1, g2, g3, g4⟩ := key
  rw [aI (by rw [X0]; exact hz)]
  exact ⟨_, _, rfl, g1, g2, g3, g4⟩
end Go.Proofs.YtmfiagdelnddkaaGreat.Ab
