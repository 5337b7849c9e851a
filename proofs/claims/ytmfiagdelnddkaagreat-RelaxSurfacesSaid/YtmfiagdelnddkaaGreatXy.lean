/- Stage 9: what flows, by the program and by the document. -/
import Derived.Test.YtmfiagdelnddkaaGreatXr
namespace Go.Proofs.YtmfiagdelnddkaaGreat.Ab
open Go
theorem RO {c : Sq aM} (ok : okC c) (b : Bool) {x y : Int} (hx : -1048577 ≤ x) (h : x ≤ y) (hy : y ≤ 1048577) : (mH c b y).Low ≤ (mH c b x).Low ∧ (mH c b y).High ≤ (mH c b x).High := by
  unfold mH
  split
  · obtain ⟨h1, h2, h3⟩ := Fv ok (wr (0 - x))
    obtain ⟨g1, g2, g3⟩ := Fv ok (wr (0 - y))
    have m : (prS c (wr (0 - x))).Low ≤ (prS c (wr (0 - y))).Low ∧ (prS c (wr (0 - x))).High ≤ (prS c (wr (0 - y))).High := aaS ok (by rw [aO (by omega) (by omega), aO (by omega) (by omega)]; omega)
    unfold agt
    rw [aO (x := 0 - (prS c (wr (0 - x))).High) (by omega) (by omega), aO (x := 0 - (prS c (wr (0 - x))).Low) (by omega) (by omega), aO (x := 0 - (prS c (wr (0 - y))).High) (by omega) (by omega), aO (x := 0 - (prS c (wr (0 - y))).Low) (by omega) (by omega)]
    dsimp only
    omega
  · exact aaS ok h
theorem aiY {f : SFan} (ok : okC f.Curve) (st : Int) {x y : Int} (hx : -1048577 ≤ x) (h : x ≤ y) (hy : y ≤ 1048577) : (stS f st y).Low ≤ (stS f st x).Low ∧ (stS f st y).High ≤ (stS f st x).High := by
  unfold stS
  split
  · exact ⟨Int.le_refl _, Int.le_refl _⟩
  · split
    · exact RO ok _ hx h hy
    · split
      · exact RO ok _ hx h hy
      · have a := RO ok f.Back hx h hy
        have b := RO ok (!f.Back) hx h hy
        dsimp only
        unfold minI maxI
        constructor
        all_goals (repeat' split)
        all_goals omega
theorem ahh {a : SAir} {s : au} (ok : RtOK a s) (road : Int) (b b' : Int × Int) {x y : Int} (hx : -1048577 ≤ x) (h : x ≤ y) (hy : y ≤ 1048577) : ∀ k, k ≤ a.Fans.n →
    (fsum a.Fans s.Fans road x b k).1 - b.1 ≤ (fsum a.Fans s.Fans road y b' k).1 - b'.1 ∧ (fsum a.Fans s.Fans road x b k).2 - b.2 ≤ (fsum a.Fans s.Fans road y b' k).2 - b'.2 := by
  intro k
  induction k with
  | zero => intro _; show b.1 - b.1 ≤ b'.1 - b'.1 ∧ b.2 - b.2 ≤ b'.2 - b'.2; omega
  | succ k ih =>
    intro hk
    have i := ih (by omega)
    have m := aiY (Hf (ok.f k (by omega)).1) (s.Fans.f k) hx h hy
    unfold fsum
    split
    · dsimp only; omega
    · omega
theorem ak0 {x y : Int} (h0 : 0 ≤ x) (h : x < y) : x * x < y * y := by
  have a := Int.mul_le_mul_of_nonneg_left (show x ≤ y by omega) h0
  have b := Int.mul_lt_mul_of_pos_right h (show 0 < y by omega)
  omega
theorem adU {x y : Int} (h : x < y) (h0 : y < 0) : y * y < x * x := by
  have := ak0 (x := -y) (y := -x) (by omega) (by omega)
  rw [Int.neg_mul_neg, Int.neg_mul_neg] at this
  exact this
theorem sq_pos (x : Int) (h : x ≠ 0) : 0 < x * x := by
  rcases Int.lt_or_gt_of_ne h with h | h
  · have := adU (x := x) (y := x + 1) (by omega)
    rcases Int.lt_or_le (x + 1) 0 with c | c
    · have := this c
      have : 0 ≤ (x + 1) * (x + 1) := Int.mul_nonneg_of_nonpos_of_nonpos (by omega) (by omega)
      omega
    · obtain rfl : x = -1 := by omega
      omega
  · exact Int.mul_pos h h
theorem akZ {lo hi x y : Int} (h0 : 1 ≤ lo) (h1 : lo ≤ hi) (h : x < y) : (sqS lo hi x).1 < (sqS lo hi y).1 ∧ (sqS lo hi x).2 < (sqS lo hi y).2 := by
  have hB : ∀ B : Int, 1 ≤ B → ∀ u v : Int, u < v → B * u < B * v := fun B hB u v h => Int.mul_lt_mul_of_pos_left h (by omega)
  unfold sqS
  by_cases cx : x < 0
  · rw [if_pos cx]
    by_cases cy : y < 0
    · rw [if_pos cy]
      have q := adU h cy
      have a := hB hi (by omega) _ _ q
      have b := hB lo h0 _ _ q
      dsimp only; omega
    · rw [if_neg cy]
      have q := sq_pos x (by omega)
      have a := hB hi (by omega) _ _ q
      have b := hB lo h0 _ _ q
      have yy : 0 ≤ y * y := Int.mul_nonneg (by omega) (by omega)
      have c := Int.mul_nonneg (show 0 ≤ lo by omega) yy
      have d := Int.mul_nonneg (show 0 ≤ hi by omega) yy
      dsimp only; omega
  · rw [if_neg cx, if_neg (by omega)]
    have q := ak0 (by omega) h
    have a := hB hi (by omega) _ _ q
    have b := hB lo h0 _ _ q
    dsimp only; omega
theorem CF {a : SAir} {s : au} (ok : RtOK a s) {i : Nat} (hi : i < a.Mine.Roads.n) {x y : Int} (hx : -1048577 ≤ x) (h : x < y) (hy : y ≤ 1048577) : (cK a s i x).1 < (cK a s i y).1 ∧ (cK a s i x).2 < (cK a s i y).2 := by
  obtain ⟨r1, r2, r3, _⟩ := NG ok.m hi
  have q := VD ok i (b := ((a.Mine.Roads.f i).Rest.Low, (a.Mine.Roads.f i).Rest.High)) r1 r2 r3 a.Doors.n (Nat.le_refl _)
  unfold cK
  dsimp only
  generalize rsum a.Doors s.Doors i ((a.Mine.Roads.f i).Rest.Low, (a.Mine.Roads.f i).Rest.High) a.Doors.n = b at q ⊢
  have l := akZ (x := x) (y := y) q.1 q.2.1 h
  have f := ahh ok i ((sqS b.1 b.2 x).1 - (a.Mine.Roads.f i).Lift.High, (sqS b.1 b.2 x).2 - (a.Mine.Roads.f i).Lift.Low) ((sqS b.1 b.2 y).1 - (a.Mine.Roads.f i).Lift.High, (sqS b.1 b.2 y).2 - (a.Mine.Roads.f i).Lift.Low) hx (by omega) hy a.Fans.n (Nat.le_refl _)
  dsimp only at f
  omega
theorem aip {a : SAir} {s : au} (ok : RtOK a s) {i : Nat} (hi : i < a.Mine.Roads.n) {x : Int} (hx : -1048577 ≤ x) (hy : x ≤ 1048577) : (cK a s i x).1 ≤ (cK a s i x).2 := by
  obtain ⟨r1, r2, r3, r4, r5, r6, _⟩ := NG ok.m hi
  have hd := ok.nd
  have q := VD ok i (b := ((a.Mine.Roads.f i).Rest.Low, (a.Mine.Roads.f i).Rest.High)) r1 r2 r3 a.Doors.n (Nat.le_refl _)
  unfold cK
  dsimp only
  generalize rsum a.Doors s.Doors i ((a.Mine.Roads.f i).Rest.Low, (a.Mine.Roads.f i).Rest.High) a.Doors.n = b at q ⊢
  have sq := ahR (lo := b.1) (hi := b.2) (x := x) q.1 q.2.1 (by omega) hx hy
  exact (ahg ok i x ((sqS b.1 b.2 x).1 - (a.Mine.Roads.f i).Lift.High, (sqS b.1 b.2 x).2 - (a.Mine.Roads.f i).Lift.Low) (by dsimp only; omega) a.Fans.n (Nat.le_refl _)).2.1
structure Cut (P : Int → Prop) (z : Int) : Prop where
  lo : -1048576 ≤ z
  hi : z ≤ 1048577
  f : ∀ x, -1048576 ≤ x → x < z → ¬ P x
  t : ∀ x, z ≤ x → x ≤ 1048576 → P x
theorem Cut.eq {P : Int → Prop} {z z' : Int} (h : Cut P z) (h' : Cut P z') : z = z' := by
  have a := h.lo
  have b := h.hi
  have a' := h'.lo
  have b' := h'.hi
  rcases Int.lt_trichotomy z z' with c | c | c
  · exact absurd (h.t z (Int.le_refl _) (by omega)) (h'.f z (by omega) c)
  · exact c
  · exact absurd (h'.t z' (Int.le_refl _) (by omega)) (h.f z' (by omega) c)
structure Ws (a : SAir) (s : au) (i : Nat) (p : Int) (S : aK) : Prop where
  l : Cut (fun x => (cK a s i x).2 > p) (S.Low + 1)
  h : Cut (fun x => (cK a s i x).1 ≥ p) S.High
theorem Ws.eq {a : SAir} {s : au} {i : Nat} {p : Int} {S S' : aK} (h : Ws a s i p S) (h' : Ws a s i p S') : S = S' := by
  have a := h.l.eq h'.l
  have b := h.h.eq h'.h
  cases S
  cases S'
  dsimp only at a b
  rw [show _ = _ from b]
  congr 1
  omega
theorem half {i j : Int} (h0 : 0 ≤ i) (h1 : j ≤ 2097153) (h : i < j) : wr ((IntKind.u64.wrap (wr (i + j))) / 2 ^ (Int.toNat (1 : Int))) = (i + j) / 2 := by
  rw [aO (x := i + j) (by omega) (by omega)]
  have e : IntKind.u64.wrap (i + j) = i + j := by rw [IntKind.wrap_u64]; omega
  rw [e]
  show wr ((i + j) / 2) = _
  exact aO (by omega) (by omega)
theorem adP (P : Int → Prop) {step : Int × Int → DT (LR (Int × Int) Int Unit)} (hP : ∀ x y, -1048576 ≤ x → x ≤ y → y ≤ 1048576 → P x → P y)
    (hs : ∀ i j, 0 ≤ i → j ≤ 2097153 → i < j → (P ((i + j) / 2 - 1048576) ∧ (step (j, i)).get = some (.next ((i + j) / 2, i))) ∨ (¬ P ((i + j) / 2 - 1048576) ∧ (step (j, i)).get = some (.next (j, (i + j) / 2 + 1))))
    (hl : ∀ i, (step (i, i)).get = some (.l i)) : ∃ z, fixO step (2097153, 0) = some (.inl z) ∧ Cut P (z - 1048576) ∧ 0 ≤ z ∧ z ≤ 2097153 := by
  have key := bH (step := step) (fun v => 0 ≤ v.2 ∧ v.2 ≤ v.1 ∧ v.1 ≤ 2097153 ∧ (∀ x, -1048576 ≤ x → x < v.2 - 1048576 → ¬ P x) ∧ (∀ x, v.1 - 1048576 ≤ x → x ≤ 1048576 → P x)) (fun v => (v.1 - v.2).toNat)
    (fun z => ∃ y, z = .inl y ∧ Cut P (y - 1048576) ∧ 0 ≤ y ∧ y ≤ 2097153) (fun v hv => by
      obtain ⟨j, i⟩ := v
      obtain ⟨h1, h2, h3, h4, h5⟩ := hv
      dsimp only at h1 h2 h3 h4 h5
      by_cases c : i < j
      · rcases hs i j h1 h3 c with ⟨q, e⟩ | ⟨q, e⟩
        · refine ⟨_, e, ⟨h1, by dsimp only; omega, by dsimp only; omega, h4, fun x a b => ?_⟩, by dsimp only; omega⟩
          exact hP _ _ (by omega) a b q
        · refine ⟨_, e, ⟨by dsimp only; omega, by dsimp only; omega, h3, fun x a b => ?_, h5⟩, by dsimp only; omega⟩
          dsimp only at b
          exact fun hx => q (hP _ _ a (by omega) (by omega) hx)
      · obtain rfl : i = j := by omega
        exact ⟨_, hl i, i, rfl, ⟨by omega, by omega, h4, h5⟩, h1, h3⟩)
    (2097153, 0) ⟨Int.le_refl _, by dsimp only; omega, Int.le_refl _, fun x a b => by dsimp only at b; omega, fun x a b => by dsimp only at a; omega⟩
  obtain ⟨z, hz, y, rfl, g⟩ := key
  exact ⟨y, hz, g⟩
theorem Yj {a : SAir} {s : au} (ok : RtOK a s) {i : Nat} (hi : i < a.Mine.Roads.n) {w : aY} (hw : AwOK a s i w) (p : Int) : ∃ z, LX w p = some z ∧ Cut (fun x => (cK a s i x).2 > p) z := by
  obtain ⟨z, e, c, z0, z1⟩ := adP (fun x => (cK a s i x).2 > p) (step := fun v => nN w.Road.From w.Road.To w.Road.Length w.Road.Area w.Road.Walk w.Road.Closed w.Road.Rest.Low w.Road.Rest.High w.Road.Lift.Low w.Road.Lift.High p w.blowers_ v.1 v.2)
    (fun x y hx hxy hy hp => by
      rcases Int.lt_or_le x y with c | c
      · have := (CF ok hi (show -1048577 ≤ x by omega) c (by omega)).2; omega
      · obtain rfl : x = y := by omega
        exact hp)
    (fun l j h0 h1 hlt => by
      have f1 : FV ((l + j) / 2) w p = some (decide ((cK a s i ((l + j) / 2 - 1048576)).2 > p)) := by
        rw [Ut]; unfold BK
        rw [aO (x := (l + j) / 2 - 1048576) (by omega) (by omega)]
        have f2 : II ((l + j) / 2 - 1048576) w p = some (decide ((cK a s i ((l + j) / 2 - 1048576)).2 > p)) := by
          rw [Wz]; unfold Dn
          rw [get_bind (RH ok hi hw (by omega) (by omega))]; rfl
        rw [get_bind f2]; rfl
      dsimp only
      unfold nN
      rw [half h0 h1 hlt, aA (decide_eq_true hlt), get_bind f1]
      by_cases c : (cK a s i ((l + j) / 2 - 1048576)).2 > p
      · rw [aD (by simp [c])]; exact .inl ⟨c, rfl⟩
      · rw [aA (by simp only [decide_eq_false c, Bool.not_false]), aO (x := (l + j) / 2 + 1) (by omega) (by omega)]; exact .inr ⟨c, rfl⟩)
    (fun l => by
      dsimp only
      unfold nN
      rw [aD (decide_eq_false (Int.lt_irrefl _))]; rfl)
  refine ⟨z - 1048576, ?_, c⟩
  rw [Yi]; unfold FW
  have f : sort_Search 2097153 w p = some z := by
    rw [aaH]; unfold Ki
    rw [aI (by rw [VH]; exact e)]; rfl
  rw [get_bind f, aO (by omega) (by omega)]; rfl
theorem RZ {a : SAir} {s : au} (ok : RtOK a s) {i : Nat} (hi : i < a.Mine.Roads.n) {w : aY} (hw : AwOK a s i w) (p : Int) : ∃ z, Du w p = some z ∧ Cut (fun x => (cK a s i x).1 ≥ p) z := by
  obtain ⟨z, e, c, z0, z1⟩ := adP (fun x => (cK a s i x).1 ≥ p) (step := fun v => jJ w.Road.From w.Road.To w.Road.Length w.Road.Area w.Road.Walk w.Road.Closed w.Road.Rest.Low w.Road.Rest.High w.Road.Lift.Low w.Road.Lift.High p w.blowers_ v.1 v.2)
    (fun x y hx hxy hy hp => by
      rcases Int.lt_or_le x y with c | c
      · have := (CF ok hi (show -1048577 ≤ x by omega) c (by omega)).1; omega
      · obtain rfl : x = y := by omega
        exact hp)
    (fun l j h0 h1 hlt => by
      have f1 : AB ((l + j) / 2) w p = some (decide ((cK a s i ((l + j) / 2 - 1048576)).1 ≥ p)) := by
        rw [OH]; unfold yR
        rw [aO (x := (l + j) / 2 - 1048576) (by omega) (by omega)]
        have f2 : IJ ((l + j) / 2 - 1048576) w p = some (decide ((cK a s i ((l + j) / 2 - 1048576)).1 ≥ p)) := by
          rw [WA]; unfold Dp
          rw [get_bind (RH ok hi hw (by omega) (by omega))]; rfl
        rw [get_bind f2]; rfl
      dsimp only
      unfold jJ
      rw [half h0 h1 hlt, aA (decide_eq_true hlt), get_bind f1]
      by_cases c : (cK a s i ((l + j) / 2 - 1048576)).1 ≥ p
      · rw [aD (by simp [c])]; exact .inl ⟨c, rfl⟩
      · rw [aA (by simp only [decide_eq_false c, Bool.not_false]), aO (x := (l + j) / 2 + 1) (by omega) (by omega)]; exact .inr ⟨c, rfl⟩)
    (fun l => by
      dsimp only
      unfold jJ
      rw [aD (decide_eq_false (Int.lt_irrefl _))]; rfl)
  refine ⟨z - 1048576, ?_, c⟩
  rw [RY]; unfold AJ
  have f : GH 2097153 w p = some z := by
    rw [VJ]; unfold Cg
    rw [aI (by rw [Pf]; exact e)]; rfl
  rw [get_bind f, aO (by omega) (by omega)]; rfl
theorem ZE (a : SAir) (s : au) (road p : Int) : (opB a s road ∧ ∃ S, Av a s road p = some S ∧ Ws a s road.toNat p S) ∨ (¬ opB a s road ∧ Av a s road p = some ⟨0, 0⟩) := by
  rw [ZB]; unfold IK
  rcases abn a s road with ⟨h, w, e, aw⟩ | ⟨h, w, e⟩
  · have ok := aW h.1
    have hi : road.toNat < a.Mine.Roads.n := by have := h.2.1; have := h.2.2.1; omega
    obtain ⟨z1, e1, c1⟩ := Yj ok hi aw p
    obtain ⟨z2, e2, c2⟩ := RZ ok hi aw p
    have := c1.lo
    have := c1.hi
    rw [get_bind e, aD (b := !true) rfl, get_bind e1, get_bind e2, aO (by omega) (by omega)]
    exact .inl ⟨h, _, rfl, by rw [show z1 - 1 + 1 = z1 by omega]; exact c1, c2⟩
  · rw [get_bind e, aA (b := !false) rfl]
    exact .inr ⟨h, rfl⟩
theorem Y5 {a : SAir} {s : au} (ok : RtOK a s) {i : Nat} (hi : i < a.Mine.Roads.n) (p : Int) : ∃ z, wE a s i p = some z ∧ Cut (fun x => (cK a s i x).2 > p) (z + 1) := by
  rw [Y4]; unfold Gm
  have mono : ∀ x y, -1048577 ≤ x → x ≤ y → y ≤ 1048577 → (cK a s i x).2 ≤ (cK a s i y).2 := fun x y hx hxy hy => by
    rcases Int.lt_or_le x y with c | c
    · have := (CF ok hi hx c hy).2; omega
    · obtain rfl : x = y := by omega
      exact Int.le_refl _
  have key := bH (step := fun v : Int × Int => qA i p a.Mine.Places a.Mine.Roads a.Fans a.Doors s.Fans s.Doors v.1 v.2)
    (fun v => -1048577 ≤ v.1 ∧ v.1 ≤ v.2 ∧ v.2 ≤ 1048576 ∧ (∀ x, -1048576 ≤ x → x ≤ v.1 → (cK a s i x).2 ≤ p) ∧ (∀ x, v.2 < x → x ≤ 1048576 → (cK a s i x).2 > p)) (fun v => (v.2 - v.1).toNat)
    (fun z => ∃ y, z = .inl y ∧ Cut (fun x => (cK a s i x).2 > p) (y + 1)) (fun v hv => by
      obtain ⟨l, h⟩ := v
      obtain ⟨h1, h2, h3, h4, h5⟩ := hv
      dsimp only at h1 h2 h3 h4 h5 ⊢
      unfold qA
      by_cases c : l < h
      · have z1 : wr (l + wr (Int.tdiv (wr (wr (h - l) + 1)) 2)) = l + (h - l + 1) / 2 := by
          rw [aO (x := h - l) (by omega) (by omega), aO (x := h - l + 1) (by omega) (by omega), Int.tdiv_eq_ediv_of_nonneg (by omega), aO (x := (h - l + 1) / 2) (by omega) (by omega), aO (by omega) (by omega)]
        rw [aA (decide_eq_true c), z1, get_bind (Tw ok hi (by omega) (by omega))]
        by_cases d : (spS (cK a s i (l + (h - l + 1) / 2))).High ≤ p
        · rw [aA (decide_eq_true d)]
          have d : (cK a s i (l + (h - l + 1) / 2)).2 ≤ p := d
          refine ⟨_, rfl, ⟨by dsimp only; omega, by dsimp only; omega, h3, fun x a b => ?_, h5⟩, by dsimp only; omega⟩
          dsimp only at b
          have := mono x (l + (h - l + 1) / 2) (by omega) b (by omega)
          omega
        · rw [aD (decide_eq_false d), aO (by omega) (by omega)]
          have d : ¬ (cK a s i (l + (h - l + 1) / 2)).2 ≤ p := d
          refine ⟨_, rfl, ⟨h1, by dsimp only; omega, by dsimp only; omega, h4, fun x a b => ?_⟩, by dsimp only; omega⟩
          dsimp only at a
          have := mono (l + (h - l + 1) / 2) x (by omega) (by omega) (by omega)
          omega
      · rw [aD (decide_eq_false c)]
        obtain rfl : l = h := by omega
        exact ⟨_, rfl, l, rfl, by omega, by omega, fun x a b => by have := h4 x a (by omega); omega, fun x a b => h5 x (by omega) b⟩)
    (-1048577, 1048576) ⟨Int.le_refl _, by dsimp only; omega, Int.le_refl _, fun x a b => by dsimp only at b; omega, fun x a b => by dsimp only at a; omega⟩
  obtain ⟨z, hz, y, rfl, g⟩ := key
  rw [aI (by rw [Tx]; exact hz)]
  exact ⟨_, rfl, g⟩
theorem Xt {a : SAir} {s : au} (ok : RtOK a s) {i : Nat} (hi : i < a.Mine.Roads.n) (p : Int) : ∃ z, sV a s i p = some z ∧ Cut (fun x => (cK a s i x).1 ≥ p) z := by
  rw [Xr]; unfold D6
  have mono : ∀ x y, -1048577 ≤ x → x ≤ y → y ≤ 1048577 → (cK a s i x).1 ≤ (cK a s i y).1 := fun x y hx hxy hy => by
    rcases Int.lt_or_le x y with c | c
    · have := (CF ok hi hx c hy).1; omega
    · obtain rfl : x = y := by omega
      exact Int.le_refl _
  have key := bH (step := fun v : Int × Int => o8 i p a.Mine.Places a.Mine.Roads a.Fans a.Doors s.Fans s.Doors v.1 v.2)
    (fun v => -1048576 ≤ v.2 ∧ v.2 ≤ v.1 ∧ v.1 ≤ 1048577 ∧ (∀ x, -1048576 ≤ x → x < v.2 → (cK a s i x).1 < p) ∧ (∀ x, v.1 ≤ x → x ≤ 1048576 → (cK a s i x).1 ≥ p)) (fun v => (v.1 - v.2).toNat)
    (fun z => ∃ y, z = .inl y ∧ Cut (fun x => (cK a s i x).1 ≥ p) y) (fun v hv => by
      obtain ⟨h, l⟩ := v
      obtain ⟨h1, h2, h3, h4, h5⟩ := hv
      dsimp only at h1 h2 h3 h4 h5 ⊢
      unfold o8
      by_cases c : l < h
      · have z1 : wr (l + wr (Int.tdiv (wr (h - l)) 2)) = l + (h - l) / 2 := by
          rw [aO (x := h - l) (by omega) (by omega), Int.tdiv_eq_ediv_of_nonneg (by omega), aO (x := (h - l) / 2) (by omega) (by omega), aO (by omega) (by omega)]
        rw [aA (decide_eq_true c), z1, get_bind (Tw ok hi (by omega) (by omega))]
        by_cases d : (spS (cK a s i (l + (h - l) / 2))).Low ≥ p
        · rw [aA (decide_eq_true d)]
          have d : (cK a s i (l + (h - l) / 2)).1 ≥ p := d
          refine ⟨_, rfl, ⟨by dsimp only; omega, by dsimp only; omega, by dsimp only; omega, h4, fun x a b => ?_⟩, by dsimp only; omega⟩
          dsimp only at a
          have := mono (l + (h - l) / 2) x (by omega) a (by omega)
          omega
        · rw [aD (decide_eq_false d), aO (by omega) (by omega)]
          have d : ¬ (cK a s i (l + (h - l) / 2)).1 ≥ p := d
          refine ⟨_, rfl, ⟨by dsimp only; omega, by dsimp only; omega, h3, fun x a b => ?_, h5⟩, by dsimp only; omega⟩
          dsimp only at b
          have := mono x (l + (h - l) / 2) (by omega) (by omega) (by omega)
          omega
      · rw [aD (decide_eq_false c)]
        obtain rfl : l = h := by omega
        exact ⟨_, rfl, l, rfl, by omega, by omega, fun x a b => by have := h4 x a (by omega); omega, fun x a b => h5 x a b⟩)
    (1048577, -1048576) ⟨Int.le_refl _, by dsimp only; omega, Int.le_refl _, fun x a b => by dsimp only at b; omega, fun x a b => by dsimp only at a; omega⟩
  obtain ⟨z, hz, y, rfl, g⟩ := key
  rw [aI (by rw [Ri]; exact hz)]
  exact ⟨_, rfl, g⟩
end Go.Proofs.YtmfiagdelnddkaaGreat.Ab
