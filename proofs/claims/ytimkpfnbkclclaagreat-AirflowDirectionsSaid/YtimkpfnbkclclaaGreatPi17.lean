/- A part of the proof, what is needed of it. -/
import Derived.Test.YtimkpfnbkclclaaGreatPi15
import Derived.Test.YtimkpfnbkclclaaGreatPi16
namespace Go.Proofs.YtimkpfnbkclclaaGreat.Ab
open Go
theorem CvD.ok {c : Sq qH} (h : CvD c 3) (hn : c.n ≤ 4) : okC c := by
  refine ⟨h.n0, by omega, fun i hi => ?_, fun i h0 hi => h.m i h0 hi⟩
  have := h.f i hi
  unfold pOf
  dsimp only
  omega
theorem DrD.ok {r : Sq Int} (h : DrD r 3) (h0 : 2 ≤ r.n) (h1 : r.n ≤ 4) : akl r := by
  refine ⟨h0, by omega, fun i hi => ?_, h.m⟩
  have := h.f i hi
  omega
theorem als {p : Nat → Int × Int} {n : Nat} (ok : OkP p n) {M : Int} (hM : ∀ i, i < n → (p i).2 ≤ M) (x : Int) : (ai7 p n x).2 ≤ M := by
  have h1 := ok.lo
  obtain ⟨_, _, _, _, _, h6⟩ := ale ok x
  rcases ajk ok x with ⟨_, e⟩ | ⟨_, e⟩ | ⟨a, b, _⟩
  · rw [e]; exact hM 0 (by omega)
  · rw [e]; exact hM (n - 1) (by omega)
  · have := hM (aiQ p n x - 1) (by omega)
    have := h6 a
    omega
theorem alI {c : Sq qH} (ok : okC c) {M : Int} (hM : ∀ i, i < c.n → (c.f i).Pressure ≤ M) (b : Bool) (x : Int) : -M ≤ (ai3 c b x).Low ∧ (ai3 c b x).Low ≤ (ai3 c b x).High ∧ (ai3 c b x).High ≤ M := by
  unfold ai3
  split
  · obtain ⟨h1, h2, h3⟩ := aj5 ok (wr (0 - x))
    have h4 : (prS c (wr (0 - x))).High ≤ M := als ok (M := M) hM (wr (0 - x))
    unfold aoO
    rw [pJ (x := 0 - (prS c (wr (0 - x))).High) (by omega) (by omega), pJ (x := 0 - (prS c (wr (0 - x))).Low) (by omega) (by omega)]
    dsimp only
    omega
  · obtain ⟨h1, h2, h3⟩ := aj5 ok x
    have h4 : (prS c x).High ≤ M := als ok (M := M) hM x
    omega
structure EqD (a : SAir) (s : qz) : Prop where
  fn : a.Fans.n ≤ 2
  dn : a.Doors.n ≤ 3
  f : FsD a.Fans s.Fans a.Mine.Roads.n
  d : DsD a.Doors s.Doors a.Mine.Roads.n
theorem amH {f : SFan} {nr : Nat} (h : FnD f nr) {st : Int} (h0 : 0 ≤ st) (h1 : st ≤ 2) (x : Int) : -3000 ≤ (stS f st x).Low ∧ (stS f st x).Low ≤ 3000 := by
  have ok := h.c.ok h.n
  have hM : ∀ i, i < f.Curve.n → (f.Curve.f i).Pressure ≤ 3000 := fun i hi => (h.c.f i hi).2.2.2
  unfold stS
  split
  · dsimp only; omega
  · split
    · have := alI ok hM f.Back x; omega
    · rw [if_pos (by omega)]
      have := alI ok hM (!f.Back) x; omega
theorem alP {D : Sq qD} {s : Sq Int} {nr : Nat} (h : DsD D s nr) (road : Int) {b : Int × Int} (h0 : 0 ≤ b.1) (h1 : b.1 ≤ 22) : ∀ k, k ≤ D.n → 0 ≤ (rsum D s road b k).1 ∧ (rsum D s road b k).1 ≤ 22 + 900 * (k : Int) := by
  intro k
  induction k with
  | zero => intro _; show 0 ≤ b.1 ∧ b.1 ≤ _; omega
  | succ k ih =>
    intro hk
    obtain ⟨i1, i2⟩ := ih (by omega)
    obtain ⟨d1, d2, d3⟩ := h.f k (by omega)
    unfold rsum
    split
    · unfold rsS
      rw [if_pos d2]
      have := d1.c.f (s.f k).toNat (by omega)
      dsimp only; omega
    · omega
theorem alK {F : Sq SFan} {s : Sq Int} {nr : Nat} (h : FsD F s nr) (road x : Int) (b : Int × Int) : ∀ k, k ≤ F.n → b.2 - 3000 * (k : Int) ≤ (fsum F s road x b k).2 ∧ (fsum F s road x b k).2 ≤ b.2 + 3000 * (k : Int) := by
  intro k
  induction k with
  | zero => intro _; show b.2 - _ ≤ b.2 ∧ b.2 ≤ _; omega
  | succ k ih =>
    intro hk
    obtain ⟨i1, i2⟩ := ih (by omega)
    obtain ⟨d1, d2, d3⟩ := h.f k (by omega)
    have := amH d1 d2 d3 x
    unfold fsum
    split
    · dsimp only; omega
    · omega
theorem aoA {a : SAir} {s : qz} (h : EqD a s) (c0 : Sq Int) (c1 : Int) (R : Sq qC) (p q : Sq Int) (road : Int) (rn : Nat) (x rest : Int) (h0 : 0 ≤ rest) (h1 : rest ≤ 22) :
    YT x c0 c1 a.Mine.Places R a.Fans a.Doors s.Fans s.Doors p q road rn rest 0 = some (.inl (rsum a.Doors s.Doors road (rest, 0) a.Doors.n).1) := by
  have hd := h.dn
  have hs := h.d.n
  rw [agN]
  refine pR (step := fun v : Int × Int => LB x c0 c1 a.Mine.Places R a.Fans a.Doors s.Fans s.Doors p q road rn v.1 v.2) (z := .l (rsum a.Doors s.Doors road (rest, 0) a.Doors.n).1)
    (fun k => ((rsum a.Doors s.Doors road (rest, 0) k).1, ((k : Nat) : Int))) a.Doors.n (fun k hk => ?_) ?_
  · unfold LB
    dsimp only
    obtain ⟨d1, d2, d3⟩ := h.d.f k hk
    have e := alP h.d road (b := (rest, 0)) h0 h1 k (by omega)
    have ok := d1.c.ok d1.n0 d1.n1
    have rin := ang ok (st := s.Doors.f k) (by omega) d3
    rw [qo (dlt hk), qo (dix hk), pI, qc (by omega)]
    by_cases c : (a.Doors.f k).Road = road
    · rw [qo (by simp [c]), qo (dix hk), qo (dix (by omega)), get_bind (akW ok (by omega) d3), pJ (x := (rsum a.Doors s.Doors road (rest, 0) k).1 + (rsS (a.Doors.f k).Rests (s.Doors.f k)).Low) (by omega) (by omega)]
      rw [show rsum a.Doors s.Doors road (rest, 0) (k + 1) = ((rsum a.Doors s.Doors road (rest, 0) k).1 + (rsS (a.Doors.f k).Rests (s.Doors.f k)).Low, (rsum a.Doors s.Doors road (rest, 0) k).2 + (rsS (a.Doors.f k).Rests (s.Doors.f k)).High) from if_pos c]
      rfl
    · rw [qm (by simp [c]), show rsum a.Doors s.Doors road (rest, 0) (k + 1) = rsum a.Doors s.Doors road (rest, 0) k from if_neg c]
      rfl
  · unfold LB
    dsimp only
    rw [qm (dge (Nat.le_refl _))]; rfl
theorem an3 {a : SAir} {s : qz} (h : EqD a s) (c0 : Sq Int) (c1 : Int) (R : Sq qC) (p q : Sq Int) (road : Int) (rn : Nat) (x y : Int) (h0 : -1000000000000 ≤ y) (h1 : y ≤ 1000000000000) :
    VP x c0 c1 a.Mine.Places R a.Fans a.Doors s.Fans s.Doors p q road rn y 0 = some (.inl (fsum a.Fans s.Fans road x (0, y) a.Fans.n).2) := by
  have hd := h.fn
  have hs := h.f.n
  rw [aga]
  refine pR (step := fun v : Int × Int => Kt x c0 c1 a.Mine.Places R a.Fans a.Doors s.Fans s.Doors p q road rn v.1 v.2) (z := .l (fsum a.Fans s.Fans road x (0, y) a.Fans.n).2)
    (fun k => ((fsum a.Fans s.Fans road x (0, y) k).2, ((k : Nat) : Int))) a.Fans.n (fun k hk => ?_) ?_
  · unfold Kt
    dsimp only
    obtain ⟨d1, d2, d3⟩ := h.f.f k hk
    have e := alK h.f road x (0, y) k (by omega)
    have ok := d1.c.ok d1.n
    have rin := amH d1 d2 d3 x
    rw [qo (dlt hk), qo (dix hk), pI, qc (by omega)]
    by_cases c : (a.Fans.f k).Road = road
    · rw [qo (by simp [c]), qo (dix hk), qo (dix (by omega)), get_bind (aky ok _ _), pJ (x := (fsum a.Fans s.Fans road x (0, y) k).2 - (stS (a.Fans.f k) (s.Fans.f k) x).Low) (by omega) (by omega)]
      rw [show fsum a.Fans s.Fans road x (0, y) (k + 1) = ((fsum a.Fans s.Fans road x (0, y) k).1 - (stS (a.Fans.f k) (s.Fans.f k) x).High, (fsum a.Fans s.Fans road x (0, y) k).2 - (stS (a.Fans.f k) (s.Fans.f k) x).Low) from if_pos c]
      rfl
    · rw [qm (by simp [c]), show fsum a.Fans s.Fans road x (0, y) (k + 1) = fsum a.Fans s.Fans road x (0, y) k from if_neg c]
      rfl
  · unfold Kt
    dsimp only
    rw [qm (dge (Nat.le_refl _))]; rfl
def sgn (B x : Int) : Int := if x < 0 then -(B * (x * x)) else B * (x * x)
theorem aqg {B x : Int} (h0 : 0 ≤ B) (h1 : B ≤ 100000) (x0 : -300 ≤ x) (x1 : x ≤ 300) : wr (wr (B * (if x < wr (0 - x) then wr (0 - x) else x)) * x) = sgn B x ∧ -9000000000 ≤ sgn B x ∧ sgn B x ≤ 9000000000 := by
  have w0 : wr (0 - x) = -x := by rw [pJ (by omega) (by omega)]; omega
  have hq : 0 ≤ x * x ∧ x * x ≤ 90000 := by
    rcases Int.le_total 0 x with h | h
    · have := Int.mul_le_mul x1 x1 h (show (0 : Int) ≤ 300 by omega)
      exact ⟨Int.mul_nonneg h h, by omega⟩
    · have := Int.mul_le_mul (show -x ≤ 300 by omega) (show -x ≤ 300 by omega) (by omega) (show (0 : Int) ≤ 300 by omega)
      rw [Int.neg_mul_neg] at this
      exact ⟨Int.mul_nonneg_of_nonpos_of_nonpos h h, by omega⟩
  have hB : 0 ≤ B * (x * x) ∧ B * (x * x) ≤ 9000000000 := by
    have := Int.mul_le_mul h1 hq.2 hq.1 (show (0 : Int) ≤ 100000 by omega)
    exact ⟨Int.mul_nonneg h0 hq.1, by omega⟩
  rw [w0]
  unfold sgn
  by_cases c : x < 0
  · rw [if_pos (show x < -x by omega), if_pos c]
    have l := Int.mul_le_mul h1 (show -x ≤ 300 by omega) (by omega) (show (0 : Int) ≤ 100000 by omega)
    have l0 := Int.mul_nonneg h0 (show 0 ≤ -x by omega)
    rw [pJ (x := B * -x) (by omega) (by omega)]
    have e : B * -x * x = -(B * (x * x)) := by rw [Int.mul_neg, Int.neg_mul, Int.mul_assoc]
    rw [e, pJ (by omega) (by omega)]
    omega
  · rw [if_neg (show ¬ x < -x by omega), if_neg c]
    have l := Int.mul_le_mul h1 x1 (by omega) (show (0 : Int) ≤ 100000 by omega)
    have l0 := Int.mul_nonneg h0 (show 0 ≤ x by omega)
    rw [pJ (x := B * x) (by omega) (by omega), Int.mul_assoc, pJ (by omega) (by omega)]
    omega
structure LfD (a : SAir) (s : qz) (x : yV) (j : Nat) (L : qB) : Prop where
  e : ∃ rest u v : Int, (a.Mine.Roads.f j).Rest.Low ≤ rest ∧ rest ≤ (a.Mine.Roads.f j).Rest.High ∧ 0 ≤ u ∧ u ≤ 29 ∧ 0 ≤ v ∧ v ≤ 29 ∧
    L = ⟨(fsum a.Fans s.Fans j (x.Flows.f j) (0, sgn (rsum a.Doors s.Doors j (rest, 0) a.Doors.n).1 (x.Flows.f j) - (x.Pressures.f (a.Mine.Roads.f j).From.toNat - x.Pressures.f (a.Mine.Roads.f j).To.toNat)) a.Fans.n).2 - u,
      (fsum a.Fans s.Fans j (x.Flows.f j) (0, sgn (rsum a.Doors s.Doors j (rest, 0) a.Doors.n).1 (x.Flows.f j) - (x.Pressures.f (a.Mine.Roads.f j).From.toNat - x.Pressures.f (a.Mine.Roads.f j).To.toNat)) a.Fans.n).2 + v⟩
  l0 : -10000000000 ≤ L.Low
  l1 : L.Low ≤ L.High
  l2 : L.High ≤ 10000000000
theorem ame {c : qF} (hc : CdOK c) {a : SAir} {s : qz} {x : yV} (h : EqD a s) (hR : a.Mine.Roads.n ≤ 1000) (hq : x.Flows.n = a.Mine.Roads.n) {np : Nat} (hp : x.Pressures.n = np) (hpv : ∀ k, k < np → -4000 ≤ x.Pressures.f k ∧ x.Pressures.f k ≤ 4000)
    (hr : ∀ j, j < a.Mine.Roads.n → RoD (a.Mine.Roads.f j) (x.Flows.f j) np) :
    ∃ b R, Py c a s x = some (b, R) ∧ 0 ≤ b ∧ b ≤ 300 ∧ R.n = a.Mine.Roads.n ∧ ∀ j, j < a.Mine.Roads.n → R.f j = { a.Mine.Roads.f j with Lift := (R.f j).Lift } ∧ LfD a s x j (R.f j).Lift := by
  have hdn := h.dn
  have hfn := h.fn
  rw [ais]; unfold aau
  have key := pY (step := fun v : Int × Sq qC × Int => LA c.l_ a.Mine.Places a.Fans a.Doors s.Fans s.Doors x.Pressures x.Flows v.1 v.2.1 v.2.2)
    (fun v => 0 ≤ v.1 ∧ v.1 ≤ 300 ∧ 0 ≤ v.2.2 ∧ v.2.2 ≤ a.Mine.Roads.n ∧ v.2.1.n = a.Mine.Roads.n ∧ ∀ j, j < a.Mine.Roads.n → v.2.1.f j = { a.Mine.Roads.f j with Lift := (v.2.1.f j).Lift } ∧ ((j : Int) < v.2.2 → LfD a s x j (v.2.1.f j).Lift)) (fun v => a.Mine.Roads.n - v.2.2.toNat)
    (fun z => ∃ y, z = .inl y ∧ 0 ≤ y.1 ∧ y.1 ≤ 300 ∧ y.2.n = a.Mine.Roads.n ∧ ∀ j, j < a.Mine.Roads.n → y.2.f j = { a.Mine.Roads.f j with Lift := (y.2.f j).Lift } ∧ LfD a s x j (y.2.f j).Lift) (fun v hv => by
      obtain ⟨b, R, i⟩ := v
      obtain ⟨h1, h2, h3, h4, h5, h6⟩ := hv
      dsimp only at h1 h2 h3 h4 h5 h6 ⊢
      obtain ⟨j, rfl⟩ : ∃ j : Nat, i = j := ⟨i.toNat, by omega⟩
      unfold LA
      by_cases hm : j < a.Mine.Roads.n
      · have r0 := hr j hm
        obtain ⟨s1, s2, s3, s4, sne, sd, s5, s6, _⟩ := r0
        have rd1 := sd.r0
        have rd2 := sd.r1
        have rd3 := sd.r2
        have eF : (R.f j).From = (a.Mine.Roads.f j).From := by rw [(h6 j hm).1]
        have eT : (R.f j).To = (a.Mine.Roads.f j).To := by rw [(h6 j hm).1]
        have eR : (R.f j).Rest = (a.Mine.Roads.f j).Rest := by rw [(h6 j hm).1]
        have z0 : wr (wr ((a.Mine.Roads.f j).Rest.High - (a.Mine.Roads.f j).Rest.Low) + 1) = (a.Mine.Roads.f j).Rest.High - (a.Mine.Roads.f j).Rest.Low + 1 := by rw [pJ (x := (a.Mine.Roads.f j).Rest.High - (a.Mine.Roads.f j).Rest.Low) (by omega) (by omega)]; exact pJ (by omega) (by omega)
        obtain ⟨w1, b1, f1, m1, o1, p1, q1, _⟩ := aiO (hc.at h1 h2) ((a.Mine.Roads.f j).Rest.High - (a.Mine.Roads.f j).Rest.Low + 1) (by omega)
        have q1 := q1 (by omega)
        have z1 : wr ((a.Mine.Roads.f j).Rest.Low + w1) = (a.Mine.Roads.f j).Rest.Low + w1 := pJ (by omega) (by omega)
        rw [qo (dlt (by omega)), qo (dix (by omega)), qo (dix (by omega)), pI, eF, eT, eR, z0, get_bind f1]
        dsimp only
        rw [z1, pV (aoA h _ _ _ _ _ _ _ _ ((a.Mine.Roads.f j).Rest.Low + w1) (by omega) (by omega))]
        dsimp only [Sum.elim]
        rw [qo (decide_eq_true ⟨by omega, by omega⟩), qo (decide_eq_true ⟨by omega, by omega⟩)]
        have eB := alP h.d j (b := ((a.Mine.Roads.f j).Rest.Low + w1, 0)) (by dsimp only; omega) (by dsimp only; omega) a.Doors.n (Nat.le_refl _)
        obtain ⟨g1, g2, g3⟩ := aqg (B := (rsum a.Doors s.Doors j ((a.Mine.Roads.f j).Rest.Low + w1, 0) a.Doors.n).1) (x := x.Flows.f j) eB.1 (by omega) s5 s6
        have pF := hpv (a.Mine.Roads.f j).From.toNat (by omega)
        have pT := hpv (a.Mine.Roads.f j).To.toNat (by omega)
        rw [g1, pJ (x := x.Pressures.f (a.Mine.Roads.f j).From.toNat - x.Pressures.f (a.Mine.Roads.f j).To.toNat) (by omega) (by omega), pJ (x := sgn (rsum a.Doors s.Doors j ((a.Mine.Roads.f j).Rest.Low + w1, 0) a.Doors.n).1 (x.Flows.f j) - (x.Pressures.f (a.Mine.Roads.f j).From.toNat - x.Pressures.f (a.Mine.Roads.f j).To.toNat)) (by omega) (by omega)]
        rw [pV (an3 h _ _ _ _ _ _ _ _ _ (by omega) (by omega))]
        dsimp only [Sum.elim]
        obtain ⟨w2, b2, f2, m2, o2, p2, q2, _⟩ := aiO (hc.at m1 o1) 30 (by omega)
        have q2 := q2 (by omega)
        obtain ⟨w3, b3, f3, m3, o3, p3, q3, _⟩ := aiO (hc.at m2 o2) 30 (by omega)
        have q3 := q3 (by omega)
        have eY := alK h.f j (x.Flows.f j) (0, sgn (rsum a.Doors s.Doors j ((a.Mine.Roads.f j).Rest.Low + w1, 0) a.Doors.n).1 (x.Flows.f j) - (x.Pressures.f (a.Mine.Roads.f j).From.toNat - x.Pressures.f (a.Mine.Roads.f j).To.toNat)) a.Fans.n (Nat.le_refl _)
        have hL : ∀ L : qB, L = ⟨(fsum a.Fans s.Fans j (x.Flows.f j) (0, sgn (rsum a.Doors s.Doors j ((a.Mine.Roads.f j).Rest.Low + w1, 0) a.Doors.n).1 (x.Flows.f j) - (x.Pressures.f (a.Mine.Roads.f j).From.toNat - x.Pressures.f (a.Mine.Roads.f j).To.toNat)) a.Fans.n).2 - w2,
            (fsum a.Fans s.Fans j (x.Flows.f j) (0, sgn (rsum a.Doors s.Doors j ((a.Mine.Roads.f j).Rest.Low + w1, 0) a.Doors.n).1 (x.Flows.f j) - (x.Pressures.f (a.Mine.Roads.f j).From.toNat - x.Pressures.f (a.Mine.Roads.f j).To.toNat)) a.Fans.n).2 + w3⟩ → LfD a s x j L := by
          intro L hL
          refine ⟨⟨(a.Mine.Roads.f j).Rest.Low + w1, w2, w3, by omega, by omega, by omega, by omega, by omega, by omega, hL⟩, ?_, ?_, ?_⟩
          all_goals (rw [hL]; dsimp only; omega)
        generalize fsum a.Fans s.Fans j (x.Flows.f j) (0, sgn (rsum a.Doors s.Doors j ((a.Mine.Roads.f j).Rest.Low + w1, 0) a.Doors.n).1 (x.Flows.f j) - (x.Pressures.f (a.Mine.Roads.f j).From.toNat - x.Pressures.f (a.Mine.Roads.f j).To.toNat)) a.Fans.n = Y at eY hL ⊢
        rw [get_bind f2, get_bind f3, qc (by omega)]
        dsimp only
        rw [pJ (x := Y.2 - w2) (by omega) (by omega), pJ (x := Y.2 + w3) (by omega) (by omega)]
        refine ⟨_, rfl, ⟨m3, o3, by dsimp only; omega, by dsimp only; omega, h5, fun k hk => ?_⟩, by dsimp only; omega⟩
        dsimp only
        by_cases c : k = j
        · subst c
          rw [ajw rfl]
          dsimp only [cond]
          refine ⟨?_, fun _ => hL _ rfl⟩
          rw [(h6 k hk).1]
        · rw [ajM c]
          dsimp only [cond]
          exact ⟨(h6 k hk).1, fun q => (h6 k hk).2 (by omega)⟩
      · rw [qm (dge (by omega))]
        exact ⟨_, rfl, _, rfl, h1, h2, h5, fun k hk => ⟨(h6 k hk).1, (h6 k hk).2 (by omega)⟩⟩)
    (c.at_, a.Mine.Roads, 0) ⟨hc.a0, hc.a1, by dsimp only; omega, by dsimp only; omega, rfl, fun k hk => ⟨rfl, fun q => by dsimp only at q; omega⟩⟩
  obtain ⟨z, hz, y, rfl, g1, g2, g3, g4⟩ := key
  rw [pV (by rw [agM]; exact hz)]
  exact ⟨_, _, rfl, g1, g2, g3, g4⟩
end Go.Proofs.YtimkpfnbkclclaaGreat.Ab
namespace Go.Proofs.YtimkpfnbkclclaaGreat.Ab
open Go
structure MdD (a : SAir) (s : qz) (x : yV) : Prop where
  nr : a.Mine.Roads.n ≤ 10
  np : a.Mine.Places.n ≤ 6
  e : ∃ (sh : Nat) (s0 : qz), 1 ≤ sh ∧ sh ≤ 2 ∧ PlD a.Mine.Places sh ∧ PrD x.Pressures a.Mine.Places.n sh ∧ FlD a.Mine.Roads x.Flows sh a.Mine.Places.n ∧ EqD a s0 ∧ DbD s0.Fans s.Fans ∧ DbD s0.Doors s.Doors ∧
    ∀ j, j < a.Mine.Roads.n → LfD a s0 x j (a.Mine.Roads.f j).Lift
  dn : a.Doors.n ≤ 2
theorem RoD.lift {r r' : qC} {q : Int} {n : Nat} (h : RoD r q n) (e : r' = { r with Lift := r'.Lift }) : RoD r' q n := by
  have e1 : r'.From = r.From := by rw [e]
  have e2 : r'.To = r.To := by rw [e]
  have e3 : r'.Length = r.Length := by rw [e]
  have e4 : r'.Area = r.Area := by rw [e]
  have e5 : r'.Closed = r.Closed := by rw [e]
  have e6 : r'.Rest = r.Rest := by rw [e]
  obtain ⟨a1, a2, a3, a4, a5, ⟨b1, b2, b3, b4, b5, b6, b7⟩, a7, a8, a9⟩ := h
  exact ⟨by omega, by omega, by omega, by omega, by omega, ⟨by omega, by omega, by omega, by omega, by rw [e6]; exact b5, by rw [e6]; exact b6, by rw [e6]; exact b7⟩, a7, a8, fun h => a9 (by rw [← e5]; exact h)⟩
theorem amg {c : qF} (hc : CdOK c) {sh : Nat} (h1 : 1 ≤ sh) (h2 : sh ≤ 2) {P : Sq qA} (hP : PlD P sh) (hPn : P.n ≤ 6) {p : Sq Int} (hp : PrD p P.n sh) {R : Sq qC} {q : Sq Int} (hq : FlD R q sh P.n) (hR : R.n ≤ 10)
    (nf : Sq SFan) (nd : Sq qD) (hnf : nf.n = 0) (hnd : nd.n = 0) :
    ∃ a s x b, DT.get (.bind (DK c (SAir.mk (qI.mk P R) nf nd)) fun z => .bind (Py (qF.mk c.l_ z.2.1) (SAir.mk (qI.mk P R) z.2.2.1 z.2.2.2) z.1 (yV.mk p q)) fun y => .bind (Gv (qF.mk c.l_ y.1) z.1) fun w => .leaf ((SAir.mk (qI.mk P y.2) z.2.2.1 z.2.2.2), w.1, (yV.mk p q), w.2)) = some (a, s, x, b) ∧ 0 ≤ b ∧ b ≤ 300 ∧ MdD a s x := by
  obtain ⟨s0, b0, F, D, e0, l0, u0, hF, hD, nF, nD⟩ := akJ hc (SAir.mk (qI.mk P R) nf nd) hnf hnd (by dsimp only; omega)
  dsimp only at hF hD
  have hE : EqD (SAir.mk (qI.mk P R) F D) s0 := ⟨nF, by dsimp only; omega, hF, hD⟩
  obtain ⟨b1, R1, e1, l1, u1, n1, hR1⟩ := ame (hc.at l0 u0) (x := yV.mk p q) hE (by dsimp only; omega) hq.qn hp.nn hp.f hq.r
  dsimp only at n1 hR1
  have sfn := hF.n
  have sdn := hD.n
  obtain ⟨t, b2, e2, l2, u2, dF, dD⟩ := alh (hc.at l1 u1) s0 (by omega) (by omega)
  rw [get_bind e0]
  dsimp only
  rw [get_bind e1]
  dsimp only
  rw [get_bind e2]
  have eFr : ∀ j, j < R.n → (R1.f j).From = (R.f j).From := fun j hj => by rw [(hR1 j hj).1]
  have eTo : ∀ j, j < R.n → (R1.f j).To = (R.f j).To := fun j hj => by rw [(hR1 j hj).1]
  have eRe : ∀ j, j < R.n → (R1.f j).Rest = (R.f j).Rest := fun j hj => by rw [(hR1 j hj).1]
  refine ⟨_, _, _, _, rfl, l2, u2, by dsimp only; omega, hPn, ⟨sh, s0, h1, h2, hP, hp, ⟨by rw [n1]; exact hq.qn, fun k k1 k2 => ?_, fun j hj => ?_⟩, ⟨nF, by dsimp only; omega, by dsimp only; rw [n1]; exact hF, by dsimp only; rw [n1]; exact hD⟩, dF, dD, fun j hj => ?_⟩, nD⟩
  · dsimp only
    rw [n1, amu (R' := R) (q' := q) R.n fun j hj => ⟨eFr j hj, eTo j hj, rfl⟩]
    exact hq.e k k1 k2
  · dsimp only at hj ⊢
    rw [n1] at hj
    exact (hq.r j hj).lift (hR1 j hj).1
  · dsimp only at hj
    rw [n1] at hj
    obtain ⟨⟨re, u, v, g⟩, g0, g1, g2⟩ := (hR1 j hj).2
    dsimp only at g
    refine ⟨⟨re, u, v, ?_⟩, g0, g1, g2⟩
    dsimp only
    rw [eFr j hj, eTo j hj, eRe j hj]
    exact g
theorem NtD.nil (R : Sq qC) (q : Sq Int) (n : Nat) (h1 : R.n = 0) (h2 : q.n = 0) : NtD R q ⟨n, fun _ => 0⟩ n :=
  ⟨by omega, rfl, fun k _ => by dsimp only; omega, fun k _ => by dsimp only; rw [h1]; rfl, fun j hj => by omega⟩
theorem am9 {c : qF} (hc : CdOK c) {sh : Nat} (h1 : 1 ≤ sh) (h2 : sh ≤ 2) {P : Sq qA} (hP : PlD P sh) (hPn : P.n ≤ 6) (R0 : Sq qC) (q0 : Sq Int) (nf : Sq SFan) (nd : Sq qD) (hR0 : R0.n = 0) (hq0 : q0.n = 0) (hnf : nf.n = 0) (hnd : nd.n = 0) :
    ∃ a s x b, DT.get (.ite (decide ((0 : Int) ≤ ((P.n : Nat) : Int) ∧ ((P.n : Nat) : Int) ≤ ((P.n : Nat) : Int) ∧ ((P.n : Nat) : Int) * ((8 : Nat) : Int) ≤ 140737488355328 ∧ ((P.n : Nat) : Int) ≤ 1099511627776)) (
      .sum (Lf c.l_ P sh c.at_ (Sq.mk (Int.toNat ((P.n : Nat) : Int)) (fun _ => (0 : Int))) sh) (fun y => 
      .ite (decide ((0 : Int) ≤ ((P.n : Nat) : Int) ∧ ((P.n : Nat) : Int) ≤ ((P.n : Nat) : Int) ∧ ((P.n : Nat) : Int) * ((8 : Nat) : Int) ≤ 140737488355328 ∧ ((P.n : Nat) : Int) ≤ 1099511627776)) (
      .ite (decide (((P.n : Nat) : Int) > (1 : Int))) (
      .bind (qJ (qF.mk c.l_ y.1) (6 : Int)) fun z => 
      .sum (Lg c.l_ P y.2 sh z.1 z.2 R0 q0 (Sq.mk (Int.toNat ((P.n : Nat) : Int)) (fun _ => (0 : Int)))) (fun w => 
      .sum (DJ c.l_ P y.2 w.2.2.2 sh w.1 w.2.1 w.2.2.1 sh) (fun u =>
      .bind (DK (qF.mk c.l_ u.1) (SAir.mk (qI.mk P u.2.1) nf nd)) fun z1 => .bind (Py (qF.mk c.l_ z1.2.1) (SAir.mk (qI.mk P u.2.1) z1.2.2.1 z1.2.2.2) z1.1 (yV.mk y.2 u.2.2)) fun z2 => .bind (Gv (qF.mk c.l_ z2.1) z1.1) fun z3 => .leaf ((SAir.mk (qI.mk P z2.2) z1.2.2.1 z1.2.2.2), z3.1, (yV.mk y.2 u.2.2), z3.2)) (fun _ => .fail)) (fun _ => .fail)) (
      .sum (DJ c.l_ P y.2 (Sq.mk (Int.toNat ((P.n : Nat) : Int)) (fun _ => (0 : Int))) sh y.1 R0 q0 sh) (fun u =>
      .bind (DK (qF.mk c.l_ u.1) (SAir.mk (qI.mk P u.2.1) nf nd)) fun z1 => .bind (Py (qF.mk c.l_ z1.2.1) (SAir.mk (qI.mk P u.2.1) z1.2.2.1 z1.2.2.2) z1.1 (yV.mk y.2 u.2.2)) fun z2 => .bind (Gv (qF.mk c.l_ z2.1) z1.1) fun z3 => .leaf ((SAir.mk (qI.mk P z2.2) z1.2.2.1 z1.2.2.2), z3.1, (yV.mk y.2 u.2.2), z3.2)) (fun _ => .fail))) .fail) (fun _ => .fail)) .fail) = some (a, s, x, b) ∧ 0 ≤ b ∧ b ≤ 300 ∧ MdD a s x := by
  have hn := hP.n
  obtain ⟨y, ey, y0, y1, hp⟩ := amM hc sh sh P hn hPn
  have hg : decide ((0 : Int) ≤ ((P.n : Nat) : Int) ∧ ((P.n : Nat) : Int) ≤ ((P.n : Nat) : Int) ∧ ((P.n : Nat) : Int) * ((8 : Nat) : Int) ≤ 140737488355328 ∧ ((P.n : Nat) : Int) ≤ 1099511627776) = true := decide_eq_true ⟨by omega, by omega, by omega, by omega⟩
  rw [qo hg, pI, pV ey]
  dsimp only [Sum.elim]
  rw [qo hg]
  by_cases hb : ((P.n : Nat) : Int) > 1
  · obtain ⟨w1, b1, f1, m1, o1, p1, q1, _⟩ := aiO (hc.at y0 y1) 6 (by omega)
    have q1 := q1 (by omega)
    obtain ⟨w, ew, w0, w2, hw, nw⟩ := amN (hc.at m1 o1) sh P y.2 hPn (by omega) w1 p1 (by omega) R0 q0 hR0 hq0
    obtain ⟨u, eu, u0, u1, hu, nu⟩ := alj (hc.at w0 w2) sh h1 P y.2 hPn hn w.2.2.2 w.2.1 w.2.2.1 hw nw
    rw [qo (decide_eq_true hb), get_bind f1]
    dsimp only
    rw [pV ew]
    dsimp only [Sum.elim]
    rw [pV eu]
    exact amg (hc.at u0 u1) h1 h2 hP hPn hp hu nu nf nd hnf hnd
  · obtain ⟨u, eu, u0, u1, hu, nu⟩ := alj (hc.at y0 y1) sh h1 P y.2 hPn hn ⟨P.n, fun _ => 0⟩ R0 q0 (NtD.nil R0 q0 P.n hR0 hq0) (by omega)
    rw [qm (decide_eq_false hb), pV eu]
    exact amg (hc.at u0 u1) h1 h2 hP hPn hp hu nu nf nd hnf hnd
theorem aos {c : qF} (hc : CdOK c) : ∃ a s x b, F7 c = some (a, s, x, b) ∧ 0 ≤ b ∧ b ≤ 300 ∧ MdD a s x := by
  rw [ahU]; unfold YO
  obtain ⟨o, b0, e0, l0, u0⟩ := ai8 hc 3 (by omega)
  obtain ⟨w, b1, e1, l1, u1, p1, q1, _⟩ := aiO (hc.at l0 u0) 5 (by omega)
  have q1 := q1 (by omega)
  rw [get_bind e0]
  dsimp only
  cases o with
  | true =>
    rw [qo rfl, get_bind e1]
    dsimp only
    obtain ⟨y, ey, y0, y1, hy, ny⟩ := alG (hc.at l1 u1) 2 2 w p1 (by omega) ⟨2, fun k => ⟨cond (Nat.blt k 1) 0 10, cond (Nat.blt k 1) true true⟩⟩ ⟨Nat.le_refl _, fun k hk => by
      dsimp only at hk ⊢
      obtain rfl | rfl : k = 0 ∨ k = 1 := by omega
      · exact ⟨rfl, by show (-100 : Int) ≤ 0; omega, by show (0 : Int) ≤ 10; omega⟩
      · exact ⟨rfl, by show (-100 : Int) ≤ 10; omega, by show (10 : Int) ≤ 10; omega⟩⟩ (Nat.le_refl _)
    rw [pV ey]
    exact am9 (hc.at y0 y1) (sh := 2) (by omega) (by omega) hy ny _ _ _ _ rfl rfl rfl rfl
  | false =>
    rw [qm rfl, get_bind e1]
    dsimp only
    obtain ⟨y, ey, y0, y1, hy, ny⟩ := alG (hc.at l1 u1) 1 1 w p1 (by omega) ⟨1, fun _ => ⟨0, true⟩⟩ ⟨Nat.le_refl _, fun k hk => by
      dsimp only at hk ⊢
      obtain rfl : k = 0 := by omega
      exact ⟨rfl, by omega, by omega⟩⟩ (by dsimp only; omega)
    rw [pV ey]
    exact am9 (hc.at y0 y1) (sh := 1) (by omega) (by omega) hy ny _ _ _ _ rfl rfl rfl rfl
end Go.Proofs.YtimkpfnbkclclaaGreat.Ab
namespace Go.Proofs.YtimkpfnbkclclaaGreat.Ab
open Go Go.ChangeShapes Go.WideShapes Go.ChangeAt Go.RowKit Go.Deep Go.Joins
theorem FnD.fan {f : SFan} {nr : Nat} (h : FnD f nr) : fanE f = 0 := by
  have h0 := h.r0
  have h1 := h.c.n0
  have h2 := h.n
  unfold fanE
  rw [if_neg (by omega), if_neg (by omega), if_neg (by omega), oL fun i _ hi => ?_]
  unfold gC
  have := h.c.f i (by omega)
  rw [if_neg (by omega), if_neg (by omega), if_neg]
  intro q
  have := h.c.m i q.1 (by omega)
  exact q.2 ⟨this.1, this.2⟩
theorem DoD.door {l : Sq qD} {i : Nat} {nr : Nat} (h : DoD (l.f i) nr) : ajt l i = 0 := by
  have h0 := h.r0
  have h1 := h.n0
  have h2 := h.n1
  unfold ajt
  rw [if_neg (by omega), if_neg (by omega), if_neg (by omega), oL fun j _ hj => ?_, oL fun j _ hj => ?_]
  · dsimp only
    rw [if_pos (.inl h.o)]
  · unfold gD
    rw [if_neg]
    intro q
    have := h.c.m j q.1 (by omega)
    omega
  · unfold gO
    have := h.c.f j (by omega)
    rw [if_pos (by omega)]
theorem EqD.air {a : SAir} {s : qz} (h : EqD a s) (hm : aja a.Mine) : airE a = 0 := by
  have hfn := h.fn
  have hdn := h.dn
  unfold airE
  rw [(ajH _).2 hm, if_neg (by omega)]
  have e1 : ajR a.Fans a.Mine.Roads.n = 0 := by
    unfold ajR
    rw [if_neg (by omega), oL fun i _ hi => ?_]
    unfold gF
    obtain ⟨f1, _, _⟩ := h.f.f i (by omega)
    have r0 := f1.r0
    have r1 := f1.r1
    rw [f1.fan, if_neg (by omega), if_pos (by omega)]
  have e2 : ajh a.Doors = 0 := by
    unfold ajh
    rw [if_neg (by omega), oL fun i _ hi => ?_]
    unfold gDo
    rw [if_pos (h.d.f i (by omega)).1.door]
  have e3 : aji a.Doors a.Mine.Roads.n = 0 := by
    unfold aji
    rw [e2, if_neg (by omega), oL fun i _ hi => ?_]
    unfold gDr
    obtain ⟨d1, _, _⟩ := h.d.f i (by omega)
    have r0 := d1.r0
    have r1 := d1.r1
    rw [if_pos (by omega)]
  rw [e1, if_neg (by omega), e3]
theorem EqD.right {a : SAir} {s : qz} (h : EqD a s) (hm : aja a.Mine) {t : qz} (h1 : t.Fans.n = a.Fans.n) (h2 : t.Doors.n = a.Doors.n) (h3 : ∀ i, i < a.Fans.n → -1 ≤ t.Fans.f i ∧ t.Fans.f i ≤ 2) (h4 : ∀ i, i < a.Doors.n → -1 ≤ t.Doors.f i ∧ t.Doors.f i < ((a.Doors.f i).Rests.n : Int)) : aiR a t = true := by
  unfold aiR
  rw [if_pos]
  refine ⟨h.air hm, h1, h2, oL fun i _ hi => ?_, oL fun i _ hi => ?_⟩
  · unfold gSf
    rw [if_pos (h3 i (by omega))]
  · unfold gSd
    have := h4 i (by omega)
    rw [if_pos (by omega)]
theorem MdD.mine {a : SAir} {s : qz} {x : yV} (h : MdD a s x) : aja a.Mine := by
  have hnr := h.nr
  have hnp := h.np
  obtain ⟨sh, s0, _, _, hP, _, hq, _, _, _, hL⟩ := h.e
  refine ⟨by omega, by omega, fun i hi => by have := (hP.f i hi).2; omega, fun i hi => ?_⟩
  obtain ⟨a1, a2, a3, a4, a5, ⟨b1, b2, b3, b4, b5, b6, b7⟩, _⟩ := hq.r i hi
  have l0 := (hL i hi).l0
  have l1 := (hL i hi).l1
  have l2 := (hL i hi).l2
  unfold akQ
  rw [if_neg (by omega), if_neg (by omega), if_neg (by omega), if_neg (by omega), if_neg (by omega), if_neg (by omega), if_neg (by omega)]
theorem MdD.right {a : SAir} {s : qz} {x : yV} (h : MdD a s x) : aiR a s = true := by
  obtain ⟨sh, s0, _, _, _, _, _, hE, dF, dD, _⟩ := h.e
  have n1 := hE.f.n
  have n2 := hE.d.n
  have n3 := dF.n
  have n4 := dD.n
  refine hE.right h.mine (by omega) (by omega) (fun i hi => ?_) (fun i hi => ?_)
  · have := (hE.f.f i hi).2
    rcases dF.f i (by omega) with e | e <;> omega
  · have := (hE.d.f i hi).2
    rcases dD.f i (by omega) with e | e <;> omega
theorem Cut.mono {P Q : Int → Prop} {z z' : Int} (h : Cut P z) (h' : Cut Q z') (hPQ : ∀ x, Q x → P x) : z ≤ z' := by
  have a := h.lo
  have b := h.hi
  have a' := h'.lo
  have b' := h'.hi
  rcases Int.lt_or_le z' z with c | c
  · exact absurd (hPQ _ (h'.t z' (Int.le_refl _) (by omega))) (h.f z' (by omega) c)
  · exact c
theorem akZ.le {a : SAir} {s : qz} (ok : RtOK a s) {i : Nat} (hi : i < a.Mine.Roads.n) {p : Int} {S : qB} (h : akZ a s i p S) : S.Low ≤ S.High := by
  have a1 := h.l.lo
  have a2 := h.l.hi
  have a3 := h.h.lo
  have a4 := h.h.hi
  rcases Int.lt_or_le S.High S.Low with c | c
  · have q1 := h.l.f S.Low (by omega) (by omega)
    have q2 := h.h.t S.High (Int.le_refl _) (by omega)
    have q3 := ajo ok hi (x := S.High) (y := S.Low) (by omega) c (by omega)
    have q4 := aoy ok hi (x := S.Low) (by omega) (by omega)
    omega
  · exact c
theorem akZ.mono {a : SAir} {s : qz} {i : Nat} {p p' : Int} {S S' : qB} (h : akZ a s i p S) (h' : akZ a s i p' S') (hp : p ≤ p') : S.Low ≤ S'.Low ∧ S.High ≤ S'.High := by
  have a := h.l.mono h'.l (fun x hx => by omega)
  have b := h.h.mono h'.h (fun x hx => by omega)
  omega
end Go.Proofs.YtimkpfnbkclclaaGreat.Ab
