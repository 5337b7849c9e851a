/- A part of the proof, what is needed of it. -/
import Derived.Test.YtimkpfnbkclclaaGreatPj14
namespace Go.Proofs.YtimkpfnbkclclaaGreat.Ab
open Go
theorem ako {c : Sq qH} (ok : okC c) (b : Bool) {x y : Int} (hx : -1048577 ≤ x) (h : x ≤ y) (hy : y ≤ 1048577) : (ai3 c b y).Low ≤ (ai3 c b x).Low ∧ (ai3 c b y).High ≤ (ai3 c b x).High := by
  unfold ai3
  split
  · obtain ⟨h1, h2, h3⟩ := aj5 ok (wr (0 - x))
    obtain ⟨g1, g2, g3⟩ := aj5 ok (wr (0 - y))
    have m : (prS c (wr (0 - x))).Low ≤ (prS c (wr (0 - y))).Low ∧ (prS c (wr (0 - x))).High ≤ (prS c (wr (0 - y))).High := alN ok (by rw [pJ (by omega) (by omega), pJ (by omega) (by omega)]; omega)
    unfold aoO
    rw [pJ (x := 0 - (prS c (wr (0 - x))).High) (by omega) (by omega), pJ (x := 0 - (prS c (wr (0 - x))).Low) (by omega) (by omega), pJ (x := 0 - (prS c (wr (0 - y))).High) (by omega) (by omega), pJ (x := 0 - (prS c (wr (0 - y))).Low) (by omega) (by omega)]
    dsimp only
    omega
  · exact alN ok h
theorem aoK {f : SFan} (ok : okC f.Curve) (st : Int) {x y : Int} (hx : -1048577 ≤ x) (h : x ≤ y) (hy : y ≤ 1048577) : (stS f st y).Low ≤ (stS f st x).Low ∧ (stS f st y).High ≤ (stS f st x).High := by
  unfold stS
  split
  · exact ⟨Int.le_refl _, Int.le_refl _⟩
  · split
    · exact ako ok _ hx h hy
    · split
      · exact ako ok _ hx h hy
      · have a := ako ok f.Back hx h hy
        have b := ako ok (!f.Back) hx h hy
        dsimp only
        unfold minI maxI
        constructor
        all_goals (repeat' split)
        all_goals omega
theorem an7 {a : SAir} {s : qz} (ok : RtOK a s) (road : Int) (b b' : Int × Int) {x y : Int} (hx : -1048577 ≤ x) (h : x ≤ y) (hy : y ≤ 1048577) : ∀ k, k ≤ a.Fans.n →
    (fsum a.Fans s.Fans road x b k).1 - b.1 ≤ (fsum a.Fans s.Fans road y b' k).1 - b'.1 ∧ (fsum a.Fans s.Fans road x b k).2 - b.2 ≤ (fsum a.Fans s.Fans road y b' k).2 - b'.2 := by
  intro k
  induction k with
  | zero => intro _; show b.1 - b.1 ≤ b'.1 - b'.1 ∧ b.2 - b.2 ≤ b'.2 - b'.2; omega
  | succ k ih =>
    intro hk
    have i := ih (by omega)
    have m := aoK (aj1 (ok.f k (by omega)).1) (s.Fans.f k) hx h hy
    unfold fsum
    split
    · dsimp only; omega
    · omega
theorem apZ {x y : Int} (h0 : 0 ≤ x) (h : x < y) : x * x < y * y := by
  have a := Int.mul_le_mul_of_nonneg_left (show x ≤ y by omega) h0
  have b := Int.mul_lt_mul_of_pos_right h (show 0 < y by omega)
  omega
theorem amG {x y : Int} (h : x < y) (h0 : y < 0) : y * y < x * x := by
  have := apZ (x := -y) (y := -x) (by omega) (by omega)
  rw [Int.neg_mul_neg, Int.neg_mul_neg] at this
  exact this
theorem sq_pos (x : Int) (h : x ≠ 0) : 0 < x * x := by
  rcases Int.lt_or_gt_of_ne h with h | h
  · have := amG (x := x) (y := x + 1) (by omega)
    rcases Int.lt_or_le (x + 1) 0 with c | c
    · have := this c
      have : 0 ≤ (x + 1) * (x + 1) := Int.mul_nonneg_of_nonpos_of_nonpos (by omega) (by omega)
      omega
    · obtain rfl : x = -1 := by omega
      omega
  · exact Int.mul_pos h h
theorem apY {lo hi x y : Int} (h0 : 1 ≤ lo) (h1 : lo ≤ hi) (h : x < y) : (sqS lo hi x).1 < (sqS lo hi y).1 ∧ (sqS lo hi x).2 < (sqS lo hi y).2 := by
  have hB : ∀ B : Int, 1 ≤ B → ∀ u v : Int, u < v → B * u < B * v := fun B hB u v h => Int.mul_lt_mul_of_pos_left h (by omega)
  unfold sqS
  by_cases cx : x < 0
  · rw [if_pos cx]
    by_cases cy : y < 0
    · rw [if_pos cy]
      have q := amG h cy
      have a := hB hi (by omega) _ _ q
      have b := hB lo h0 _ _ q
      dsimp only; omega
    · rw [if_neg cy]
      have q := sq_pos x (by omega)
      have a := hB hi (by omega) _ _ q
      have b := hB lo h0 _ _ q
      have yy : 0 ≤ y * y := Int.mul_nonneg (by omega) (by omega)
      have c := Int.mul_nonneg (show 0 ≤ lo by omega) yy
      have d := Int.mul_nonneg (show 0 ≤ hi by omega) yy
      dsimp only; omega
  · rw [if_neg cx, if_neg (by omega)]
    have q := apZ (by omega) h
    have a := hB hi (by omega) _ _ q
    have b := hB lo h0 _ _ q
    dsimp only; omega
theorem ajo {a : SAir} {s : qz} (ok : RtOK a s) {i : Nat} (hi : i < a.Mine.Roads.n) {x y : Int} (hx : -1048577 ≤ x) (h : x < y) (hy : y ≤ 1048577) : (aiS a s i x).1 < (aiS a s i y).1 ∧ (aiS a s i x).2 < (aiS a s i y).2 := by
  obtain ⟨r1, r2, r3, _⟩ := ajT ok.m hi
  have q := akR ok i (b := ((a.Mine.Roads.f i).Rest.Low, (a.Mine.Roads.f i).Rest.High)) r1 r2 r3 a.Doors.n (Nat.le_refl _)
  unfold aiS
  dsimp only
  generalize rsum a.Doors s.Doors i ((a.Mine.Roads.f i).Rest.Low, (a.Mine.Roads.f i).Rest.High) a.Doors.n = b at q ⊢
  have l := apY (x := x) (y := y) q.1 q.2.1 h
  have f := an7 ok i ((sqS b.1 b.2 x).1 - (a.Mine.Roads.f i).Lift.High, (sqS b.1 b.2 x).2 - (a.Mine.Roads.f i).Lift.Low) ((sqS b.1 b.2 y).1 - (a.Mine.Roads.f i).Lift.High, (sqS b.1 b.2 y).2 - (a.Mine.Roads.f i).Lift.Low) hx (by omega) hy a.Fans.n (Nat.le_refl _)
  dsimp only at f
  omega
theorem aoy {a : SAir} {s : qz} (ok : RtOK a s) {i : Nat} (hi : i < a.Mine.Roads.n) {x : Int} (hx : -1048577 ≤ x) (hy : x ≤ 1048577) : (aiS a s i x).1 ≤ (aiS a s i x).2 := by
  obtain ⟨r1, r2, r3, r4, r5, r6, _⟩ := ajT ok.m hi
  have hd := ok.nd
  have q := akR ok i (b := ((a.Mine.Roads.f i).Rest.Low, (a.Mine.Roads.f i).Rest.High)) r1 r2 r3 a.Doors.n (Nat.le_refl _)
  unfold aiS
  dsimp only
  generalize rsum a.Doors s.Doors i ((a.Mine.Roads.f i).Rest.Low, (a.Mine.Roads.f i).Rest.High) a.Doors.n = b at q ⊢
  have sq := aol (lo := b.1) (hi := b.2) (x := x) q.1 q.2.1 (by omega) hx hy
  exact (an6 ok i x ((sqS b.1 b.2 x).1 - (a.Mine.Roads.f i).Lift.High, (sqS b.1 b.2 x).2 - (a.Mine.Roads.f i).Lift.Low) (by dsimp only; omega) a.Fans.n (Nat.le_refl _)).2.1
structure Cut (P : Int → Prop) (z : Int) : Prop where
  lo : -1048576 ≤ z
  hi : z ≤ 1048577
  f : ∀ x, -1048576 ≤ x → x < z → ¬ P x
  t : ∀ x, z ≤ x → x ≤ 1048576 → P x
theorem Cut.eq {P : Int → Prop} {z z' : Int} (h : Cut P z) (h' : Cut P z') : z = z' := by
  have a := h.lo
  have b := h.hi
  have a' := h'.lo
  have b' := h'.hi
  rcases Int.lt_trichotomy z z' with c | c | c
  · exact absurd (h.t z (Int.le_refl _) (by omega)) (h'.f z (by omega) c)
  · exact c
  · exact absurd (h'.t z' (Int.le_refl _) (by omega)) (h.f z' (by omega) c)
structure akZ (a : SAir) (s : qz) (i : Nat) (p : Int) (S : qB) : Prop where
  l : Cut (fun x => (aiS a s i x).2 > p) (S.Low + 1)
  h : Cut (fun x => (aiS a s i x).1 ≥ p) S.High
theorem akZ.eq {a : SAir} {s : qz} {i : Nat} {p : Int} {S S' : qB} (h : akZ a s i p S) (h' : akZ a s i p S') : S = S' := by
  have a := h.l.eq h'.l
  have b := h.h.eq h'.h
  cases S
  cases S'
  dsimp only at a b
  rw [show _ = _ from b]
  congr 1
  omega
theorem half {i j : Int} (h0 : 0 ≤ i) (h1 : j ≤ 2097153) (h : i < j) : wr ((IntKind.u64.wrap (wr (i + j))) / 2 ^ (Int.toNat (1 : Int))) = (i + j) / 2 := by
  rw [pJ (x := i + j) (by omega) (by omega)]
  have e : IntKind.u64.wrap (i + j) = i + j := by rw [IntKind.wrap_u64]; omega
  rw [e]
  show wr ((i + j) / 2) = _
  exact pJ (by omega) (by omega)
theorem amE (P : Int → Prop) {step : Int × Int → DT (LR (Int × Int) Int Unit)} (hP : ∀ x y, -1048576 ≤ x → x ≤ y → y ≤ 1048576 → P x → P y)
    (hs : ∀ i j, 0 ≤ i → j ≤ 2097153 → i < j → (P ((i + j) / 2 - 1048576) ∧ (step (j, i)).get = some (.next ((i + j) / 2, i))) ∨ (¬ P ((i + j) / 2 - 1048576) ∧ (step (j, i)).get = some (.next (j, (i + j) / 2 + 1))))
    (hl : ∀ i, (step (i, i)).get = some (.l i)) : ∃ z, fixO step (2097153, 0) = some (.inl z) ∧ Cut P (z - 1048576) ∧ 0 ≤ z ∧ z ≤ 2097153 := by
  have key := pY (step := step) (fun v => 0 ≤ v.2 ∧ v.2 ≤ v.1 ∧ v.1 ≤ 2097153 ∧ (∀ x, -1048576 ≤ x → x < v.2 - 1048576 → ¬ P x) ∧ (∀ x, v.1 - 1048576 ≤ x → x ≤ 1048576 → P x)) (fun v => (v.1 - v.2).toNat)
    (fun z => ∃ y, z = .inl y ∧ Cut P (y - 1048576) ∧ 0 ≤ y ∧ y ≤ 2097153) (fun v hv => by
      obtain ⟨j, i⟩ := v
      obtain ⟨h1, h2, h3, h4, h5⟩ := hv
      dsimp only at h1 h2 h3 h4 h5
      by_cases c : i < j
      · rcases hs i j h1 h3 c with ⟨q, e⟩ | ⟨q, e⟩
        · refine ⟨_, e, ⟨h1, by dsimp only; omega, by dsimp only; omega, h4, fun x a b => ?_⟩, by dsimp only; omega⟩
          exact hP _ _ (by omega) a b q
        · refine ⟨_, e, ⟨by dsimp only; omega, by dsimp only; omega, h3, fun x a b => ?_, h5⟩, by dsimp only; omega⟩
          dsimp only at b
          exact fun hx => q (hP _ _ a (by omega) (by omega) hx)
      · obtain rfl : i = j := by omega
        exact ⟨_, hl i, i, rfl, ⟨by omega, by omega, h4, h5⟩, h1, h3⟩)
    (2097153, 0) ⟨Int.le_refl _, by dsimp only; omega, Int.le_refl _, fun x a b => by dsimp only at b; omega, fun x a b => by dsimp only at a; omega⟩
  obtain ⟨z, hz, y, rfl, g⟩ := key
  exact ⟨y, hz, g⟩
theorem alm {a : SAir} {s : qz} (ok : RtOK a s) {i : Nat} (hi : i < a.Mine.Roads.n) {w : qN} (hw : AwOK a s i w) (p : Int) : ∃ z, YU w p = some z ∧ Cut (fun x => (aiS a s i x).2 > p) z := by
  obtain ⟨z, e, c, z0, z1⟩ := amE (fun x => (aiS a s i x).2 > p) (step := fun v => Kc w.Road.From w.Road.To w.Road.Length w.Road.Area w.Road.Walk w.Road.Closed w.Road.Rest.Low w.Road.Rest.High w.Road.Lift.Low w.Road.Lift.High p w.blowers_ v.1 v.2)
    (fun x y hx hxy hy hp => by
      rcases Int.lt_or_le x y with c | c
      · have := (ajo ok hi (show -1048577 ≤ x by omega) c (by omega)).2; omega
      · obtain rfl : x = y := by omega
        exact hp)
    (fun l j h0 h1 hlt => by
      have f1 : Tn ((l + j) / 2) w p = some (decide ((aiS a s i ((l + j) / 2 - 1048576)).2 > p)) := by
        rw [afx]; unfold Oe
        rw [pJ (x := (l + j) / 2 - 1048576) (by omega) (by omega)]
        have f2 : V4 ((l + j) / 2 - 1048576) w p = some (decide ((aiS a s i ((l + j) / 2 - 1048576)).2 > p)) := by
          rw [agd]; unfold PY
          rw [get_bind (akm ok hi hw (by omega) (by omega))]; rfl
        rw [get_bind f2]; rfl
      dsimp only
      unfold Kc
      rw [half h0 h1 hlt, qo (decide_eq_true hlt), get_bind f1]
      by_cases c : (aiS a s i ((l + j) / 2 - 1048576)).2 > p
      · rw [qm (by simp [c])]; exact .inl ⟨c, rfl⟩
      · rw [qo (by simp only [decide_eq_false c, Bool.not_false]), pJ (x := (l + j) / 2 + 1) (by omega) (by omega)]; exact .inr ⟨c, rfl⟩)
    (fun l => by
      dsimp only
      unfold Kc
      rw [qm (decide_eq_false (Int.lt_irrefl _))]; rfl)
  refine ⟨z - 1048576, ?_, c⟩
  rw [agR]; unfold Tp
  have f : sort_Search 2097153 w p = some z := by
    rw [ahR]; unfold XP
    rw [pV (by rw [af0]; exact e)]; rfl
  rw [get_bind f, pJ (by omega) (by omega)]; rfl
theorem akr {a : SAir} {s : qz} (ok : RtOK a s) {i : Nat} (hi : i < a.Mine.Roads.n) {w : qN} (hw : AwOK a s i w) (p : Int) : ∃ z, P8 w p = some z ∧ Cut (fun x => (aiS a s i x).1 ≥ p) z := by
  obtain ⟨z, e, c, z0, z1⟩ := amE (fun x => (aiS a s i x).1 ≥ p) (step := fun v => F4 w.Road.From w.Road.To w.Road.Length w.Road.Area w.Road.Walk w.Road.Closed w.Road.Rest.Low w.Road.Rest.High w.Road.Lift.Low w.Road.Lift.High p w.blowers_ v.1 v.2)
    (fun x y hx hxy hy hp => by
      rcases Int.lt_or_le x y with c | c
      · have := (ajo ok hi (show -1048577 ≤ x by omega) c (by omega)).1; omega
      · obtain rfl : x = y := by omega
        exact hp)
    (fun l j h0 h1 hlt => by
      have f1 : Mf ((l + j) / 2) w p = some (decide ((aiS a s i ((l + j) / 2 - 1048576)).1 ≥ p)) := by
        rw [ael]; unfold Jp
        rw [pJ (x := (l + j) / 2 - 1048576) (by omega) (by omega)]
        have f2 : V5 ((l + j) / 2 - 1048576) w p = some (decide ((aiS a s i ((l + j) / 2 - 1048576)).1 ≥ p)) := by
          rw [agf]; unfold PZ
          rw [get_bind (akm ok hi hw (by omega) (by omega))]; rfl
        rw [get_bind f2]; rfl
      dsimp only
      unfold F4
      rw [half h0 h1 hlt, qo (decide_eq_true hlt), get_bind f1]
      by_cases c : (aiS a s i ((l + j) / 2 - 1048576)).1 ≥ p
      · rw [qm (by simp [c])]; exact .inl ⟨c, rfl⟩
      · rw [qo (by simp only [decide_eq_false c, Bool.not_false]), pJ (x := (l + j) / 2 + 1) (by omega) (by omega)]; exact .inr ⟨c, rfl⟩)
    (fun l => by
      dsimp only
      unfold F4
      rw [qm (decide_eq_false (Int.lt_irrefl _))]; rfl)
  refine ⟨z - 1048576, ?_, c⟩
  rw [aeX]; unfold Mg
  have f : UE 2097153 w p = some z := by
    rw [af2]; unfold OT
    rw [pV (by rw [aeu]; exact e)]; rfl
  rw [get_bind f, pJ (by omega) (by omega)]; rfl
theorem akb (a : SAir) (s : qz) (road p : Int) : (opB a s road ∧ ∃ S, Jj a s road p = some S ∧ akZ a s road.toNat p S) ∨ (¬ opB a s road ∧ Jj a s road p = some ⟨0, 0⟩) := by
  rw [ahi]; unfold V6
  rcases alZ a s road with ⟨h, w, e, aw⟩ | ⟨h, w, e⟩
  · have ok := aiU h.1
    have hi : road.toNat < a.Mine.Roads.n := by have := h.2.1; have := h.2.2.1; omega
    obtain ⟨z1, e1, c1⟩ := alm ok hi aw p
    obtain ⟨z2, e2, c2⟩ := akr ok hi aw p
    have := c1.lo
    have := c1.hi
    rw [get_bind e, qm (b := !true) rfl, get_bind e1, get_bind e2, pJ (by omega) (by omega)]
    exact .inl ⟨h, _, rfl, by rw [show z1 - 1 + 1 = z1 by omega]; exact c1, c2⟩
  · rw [get_bind e, qo (b := !false) rfl]
    exact .inr ⟨h, rfl⟩
theorem alu {a : SAir} {s : qz} (ok : RtOK a s) {i : Nat} (hi : i < a.Mine.Roads.n) (p : Int) : ∃ z, GZ a s i p = some z ∧ Cut (fun x => (aiS a s i x).2 > p) (z + 1) := by
  rw [ag2]; unfold Uk
  have mono : ∀ x y, -1048577 ≤ x → x ≤ y → y ≤ 1048577 → (aiS a s i x).2 ≤ (aiS a s i y).2 := fun x y hx hxy hy => by
    rcases Int.lt_or_le x y with c | c
    · have := (ajo ok hi hx c hy).2; omega
    · obtain rfl : x = y := by omega
      exact Int.le_refl _
  have key := pY (step := fun v : Int × Int => Io i p a.Mine.Places a.Mine.Roads a.Fans a.Doors s.Fans s.Doors v.1 v.2)
    (fun v => -1048577 ≤ v.1 ∧ v.1 ≤ v.2 ∧ v.2 ≤ 1048576 ∧ (∀ x, -1048576 ≤ x → x ≤ v.1 → (aiS a s i x).2 ≤ p) ∧ (∀ x, v.2 < x → x ≤ 1048576 → (aiS a s i x).2 > p)) (fun v => (v.2 - v.1).toNat)
    (fun z => ∃ y, z = .inl y ∧ Cut (fun x => (aiS a s i x).2 > p) (y + 1)) (fun v hv => by
      obtain ⟨l, h⟩ := v
      obtain ⟨h1, h2, h3, h4, h5⟩ := hv
      dsimp only at h1 h2 h3 h4 h5 ⊢
      unfold Io
      by_cases c : l < h
      · have z1 : wr (l + wr (Int.tdiv (wr (wr (h - l) + 1)) 2)) = l + (h - l + 1) / 2 := by
          rw [pJ (x := h - l) (by omega) (by omega), pJ (x := h - l + 1) (by omega) (by omega), Int.tdiv_eq_ediv_of_nonneg (by omega), pJ (x := (h - l + 1) / 2) (by omega) (by omega), pJ (by omega) (by omega)]
        rw [qo (decide_eq_true c), z1, get_bind (akz ok hi (by omega) (by omega))]
        by_cases d : (spS (aiS a s i (l + (h - l + 1) / 2))).High ≤ p
        · rw [qo (decide_eq_true d)]
          have d : (aiS a s i (l + (h - l + 1) / 2)).2 ≤ p := d
          refine ⟨_, rfl, ⟨by dsimp only; omega, by dsimp only; omega, h3, fun x a b => ?_, h5⟩, by dsimp only; omega⟩
          dsimp only at b
          have := mono x (l + (h - l + 1) / 2) (by omega) b (by omega)
          omega
        · rw [qm (decide_eq_false d), pJ (by omega) (by omega)]
          have d : ¬ (aiS a s i (l + (h - l + 1) / 2)).2 ≤ p := d
          refine ⟨_, rfl, ⟨h1, by dsimp only; omega, by dsimp only; omega, h4, fun x a b => ?_⟩, by dsimp only; omega⟩
          dsimp only at a
          have := mono (l + (h - l + 1) / 2) x (by omega) (by omega) (by omega)
          omega
      · rw [qm (decide_eq_false c)]
        obtain rfl : l = h := by omega
        exact ⟨_, rfl, l, rfl, by omega, by omega, fun x a b => by have := h4 x a (by omega); omega, fun x a b => h5 x (by omega) b⟩)
    (-1048577, 1048576) ⟨Int.le_refl _, by dsimp only; omega, Int.le_refl _, fun x a b => by dsimp only at b; omega, fun x a b => by dsimp only at a; omega⟩
  obtain ⟨z, hz, y, rfl, g⟩ := key
  rw [pV (by rw [ae9]; exact hz)]
  exact ⟨_, rfl, g⟩
theorem ala {a : SAir} {s : qz} (ok : RtOK a s) {i : Nat} (hi : i < a.Mine.Roads.n) (p : Int) : ∃ z, Fb a s i p = some z ∧ Cut (fun x => (aiS a s i x).1 ≥ p) z := by
  rw [agC]; unfold QL
  have mono : ∀ x y, -1048577 ≤ x → x ≤ y → y ≤ 1048577 → (aiS a s i x).1 ≤ (aiS a s i y).1 := fun x y hx hxy hy => by
    rcases Int.lt_or_le x y with c | c
    · have := (ajo ok hi hx c hy).1; omega
    · obtain rfl : x = y := by omega
      exact Int.le_refl _
  have key := pY (step := fun v : Int × Int => GY i p a.Mine.Places a.Mine.Roads a.Fans a.Doors s.Fans s.Doors v.1 v.2)
    (fun v => -1048576 ≤ v.2 ∧ v.2 ≤ v.1 ∧ v.1 ≤ 1048577 ∧ (∀ x, -1048576 ≤ x → x < v.2 → (aiS a s i x).1 < p) ∧ (∀ x, v.1 ≤ x → x ≤ 1048576 → (aiS a s i x).1 ≥ p)) (fun v => (v.1 - v.2).toNat)
    (fun z => ∃ y, z = .inl y ∧ Cut (fun x => (aiS a s i x).1 ≥ p) y) (fun v hv => by
      obtain ⟨h, l⟩ := v
      obtain ⟨h1, h2, h3, h4, h5⟩ := hv
      dsimp only at h1 h2 h3 h4 h5 ⊢
      unfold GY
      by_cases c : l < h
      · have z1 : wr (l + wr (Int.tdiv (wr (h - l)) 2)) = l + (h - l) / 2 := by
          rw [pJ (x := h - l) (by omega) (by omega), Int.tdiv_eq_ediv_of_nonneg (by omega), pJ (x := (h - l) / 2) (by omega) (by omega), pJ (by omega) (by omega)]
        rw [qo (decide_eq_true c), z1, get_bind (akz ok hi (by omega) (by omega))]
        by_cases d : (spS (aiS a s i (l + (h - l) / 2))).Low ≥ p
        · rw [qo (decide_eq_true d)]
          have d : (aiS a s i (l + (h - l) / 2)).1 ≥ p := d
          refine ⟨_, rfl, ⟨by dsimp only; omega, by dsimp only; omega, by dsimp only; omega, h4, fun x a b => ?_⟩, by dsimp only; omega⟩
          dsimp only at a
          have := mono (l + (h - l) / 2) x (by omega) a (by omega)
          omega
        · rw [qm (decide_eq_false d), pJ (by omega) (by omega)]
          have d : ¬ (aiS a s i (l + (h - l) / 2)).1 ≥ p := d
          refine ⟨_, rfl, ⟨by dsimp only; omega, by dsimp only; omega, h3, fun x a b => ?_, h5⟩, by dsimp only; omega⟩
          dsimp only at b
          have := mono x (l + (h - l) / 2) (by omega) (by omega) (by omega)
          omega
      · rw [qm (decide_eq_false c)]
        obtain rfl : l = h := by omega
        exact ⟨_, rfl, l, rfl, by omega, by omega, fun x a b => by have := h4 x a (by omega); omega, fun x a b => h5 x a b⟩)
    (1048577, -1048576) ⟨Int.le_refl _, by dsimp only; omega, Int.le_refl _, fun x a b => by dsimp only at b; omega, fun x a b => by dsimp only at a; omega⟩
  obtain ⟨z, hz, y, rfl, g⟩ := key
  rw [pV (by rw [aeK]; exact hz)]
  exact ⟨_, rfl, g⟩
end Go.Proofs.YtimkpfnbkclclaaGreat.Ab
