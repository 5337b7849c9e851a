/- Stage 9: what flows, by the program and by the document. -/
import Derived.Test.YtnoeblpanfbpjaaGreatXr
namespace Go.Proofs.YtnoeblpanfbpjaaGreat.Ab
open Go

theorem blow_mono {c : Sq SPoint} (ok : okC c) (b : Bool) {x y : Int} (hx : -1048577 ≤ x) (h : x ≤ y) (hy : y ≤ 1048577) : (blowS c b y).Low ≤ (blowS c b x).Low ∧ (blowS c b y).High ≤ (blowS c b x).High := by
  unfold blowS
  split
  · obtain ⟨h1, h2, h3⟩ := press_ok ok (wr (0 - x))
    obtain ⟨g1, g2, g3⟩ := press_ok ok (wr (0 - y))
    have m : (prS c (wr (0 - x))).Low ≤ (prS c (wr (0 - y))).Low ∧ (prS c (wr (0 - x))).High ≤ (prS c (wr (0 - y))).High := press_mono ok (by rw [wr_ok (by omega) (by omega), wr_ok (by omega) (by omega)]; omega)
    unfold turnS
    rw [wr_ok (x := 0 - (prS c (wr (0 - x))).High) (by omega) (by omega), wr_ok (x := 0 - (prS c (wr (0 - x))).Low) (by omega) (by omega), wr_ok (x := 0 - (prS c (wr (0 - y))).High) (by omega) (by omega), wr_ok (x := 0 - (prS c (wr (0 - y))).Low) (by omega) (by omega)]
    dsimp only
    omega
  · exact press_mono ok h
theorem stS_mono {f : SFan} (ok : okC f.Curve) (st : Int) {x y : Int} (hx : -1048577 ≤ x) (h : x ≤ y) (hy : y ≤ 1048577) : (stS f st y).Low ≤ (stS f st x).Low ∧ (stS f st y).High ≤ (stS f st x).High := by
  unfold stS
  split
  · exact ⟨Int.le_refl _, Int.le_refl _⟩
  · split
    · exact blow_mono ok _ hx h hy
    · split
      · exact blow_mono ok _ hx h hy
      · have a := blow_mono ok f.Back hx h hy
        have b := blow_mono ok (!f.Back) hx h hy
        dsimp only
        unfold minI maxI
        constructor
        all_goals (repeat' split)
        all_goals omega
theorem fsum_mono {a : SAir} {s : SSetting} (ok : RtOK a s) (road : Int) (b b' : Int × Int) {x y : Int} (hx : -1048577 ≤ x) (h : x ≤ y) (hy : y ≤ 1048577) : ∀ k, k ≤ a.Fans.n →
    (fsum a.Fans s.Fans road x b k).1 - b.1 ≤ (fsum a.Fans s.Fans road y b' k).1 - b'.1 ∧ (fsum a.Fans s.Fans road x b k).2 - b.2 ≤ (fsum a.Fans s.Fans road y b' k).2 - b'.2 := by
  intro k
  induction k with
  | zero => intro _; show b.1 - b.1 ≤ b'.1 - b'.1 ∧ b.2 - b.2 ≤ b'.2 - b'.2; omega
  | succ k ih =>
    intro hk
    have i := ih (by omega)
    have m := stS_mono (fanE_curve (ok.f k (by omega)).1) (s.Fans.f k) hx h hy
    unfold fsum
    split
    · dsimp only; omega
    · omega
theorem sq_lt {x y : Int} (h0 : 0 ≤ x) (h : x < y) : x * x < y * y := by
  have a := Int.mul_le_mul_of_nonneg_left (show x ≤ y by omega) h0
  have b := Int.mul_lt_mul_of_pos_right h (show 0 < y by omega)
  omega
theorem sq_lt_neg {x y : Int} (h : x < y) (h0 : y < 0) : y * y < x * x := by
  have := sq_lt (x := -y) (y := -x) (by omega) (by omega)
  rw [Int.neg_mul_neg, Int.neg_mul_neg] at this
  exact this
theorem sq_pos (x : Int) (h : x ≠ 0) : 0 < x * x := by
  rcases Int.lt_or_gt_of_ne h with h | h
  · have := sq_lt_neg (x := x) (y := x + 1) (by omega)
    rcases Int.lt_or_le (x + 1) 0 with c | c
    · have := this c
      have : 0 ≤ (x + 1) * (x + 1) := Int.mul_nonneg_of_nonpos_of_nonpos (by omega) (by omega)
      omega
    · obtain rfl : x = -1 := by omega
      omega
  · exact Int.mul_pos h h
theorem sqS_lt {lo hi x y : Int} (h0 : 1 ≤ lo) (h1 : lo ≤ hi) (h : x < y) : (sqS lo hi x).1 < (sqS lo hi y).1 ∧ (sqS lo hi x).2 < (sqS lo hi y).2 := by
  have hB : ∀ B : Int, 1 ≤ B → ∀ u v : Int, u < v → B * u < B * v := fun B hB u v h => Int.mul_lt_mul_of_pos_left h (by omega)
  unfold sqS
  by_cases cx : x < 0
  · rw [if_pos cx]
    by_cases cy : y < 0
    · rw [if_pos cy]
      have q := sq_lt_neg h cy
      have a := hB hi (by omega) _ _ q
      have b := hB lo h0 _ _ q
      dsimp only; omega
    · rw [if_neg cy]
      have q := sq_pos x (by omega)
      have a := hB hi (by omega) _ _ q
      have b := hB lo h0 _ _ q
      have yy : 0 ≤ y * y := Int.mul_nonneg (by omega) (by omega)
      have c := Int.mul_nonneg (show 0 ≤ lo by omega) yy
      have d := Int.mul_nonneg (show 0 ≤ hi by omega) yy
      dsimp only; omega
  · rw [if_neg cx, if_neg (by omega)]
    have q := sq_lt (by omega) h
    have a := hB hi (by omega) _ _ q
    have b := hB lo h0 _ _ q
    dsimp only; omega
/-- More flow, more difference of pressure. -/
theorem dropP_lt {a : SAir} {s : SSetting} (ok : RtOK a s) {i : Nat} (hi : i < a.Mine.Roads.n) {x y : Int} (hx : -1048577 ≤ x) (h : x < y) (hy : y ≤ 1048577) : (dropP a s i x).1 < (dropP a s i y).1 ∧ (dropP a s i x).2 < (dropP a s i y).2 := by
  obtain ⟨r1, r2, r3, _⟩ := road_rest ok.m hi
  have q := rsum_in ok i (b := ((a.Mine.Roads.f i).Rest.Low, (a.Mine.Roads.f i).Rest.High)) r1 r2 r3 a.Doors.n (Nat.le_refl _)
  unfold dropP
  dsimp only
  generalize rsum a.Doors s.Doors i ((a.Mine.Roads.f i).Rest.Low, (a.Mine.Roads.f i).Rest.High) a.Doors.n = b at q ⊢
  have l := sqS_lt (x := x) (y := y) q.1 q.2.1 h
  have f := fsum_mono ok i ((sqS b.1 b.2 x).1 - (a.Mine.Roads.f i).Lift.High, (sqS b.1 b.2 x).2 - (a.Mine.Roads.f i).Lift.Low) ((sqS b.1 b.2 y).1 - (a.Mine.Roads.f i).Lift.High, (sqS b.1 b.2 y).2 - (a.Mine.Roads.f i).Lift.Low) hx (by omega) hy a.Fans.n (Nat.le_refl _)
  dsimp only at f
  omega
theorem dropP_in {a : SAir} {s : SSetting} (ok : RtOK a s) {i : Nat} (hi : i < a.Mine.Roads.n) {x : Int} (hx : -1048577 ≤ x) (hy : x ≤ 1048577) : (dropP a s i x).1 ≤ (dropP a s i x).2 := by
  obtain ⟨r1, r2, r3, r4, r5, r6, _⟩ := road_rest ok.m hi
  have hd := ok.nd
  have q := rsum_in ok i (b := ((a.Mine.Roads.f i).Rest.Low, (a.Mine.Roads.f i).Rest.High)) r1 r2 r3 a.Doors.n (Nat.le_refl _)
  unfold dropP
  dsimp only
  generalize rsum a.Doors s.Doors i ((a.Mine.Roads.f i).Rest.Low, (a.Mine.Roads.f i).Rest.High) a.Doors.n = b at q ⊢
  have sq := sqS_in (lo := b.1) (hi := b.2) (x := x) q.1 q.2.1 (by omega) hx hy
  exact (fsum_in ok i x ((sqS b.1 b.2 x).1 - (a.Mine.Roads.f i).Lift.High, (sqS b.1 b.2 x).2 - (a.Mine.Roads.f i).Lift.Low) (by dsimp only; omega) a.Fans.n (Nat.le_refl _)).2.1
/-! ### Where a condition begins -/
/-- From z on the condition is true. -/
structure Cut (P : Int → Prop) (z : Int) : Prop where
  lo : -1048576 ≤ z
  hi : z ≤ 1048577
  f : ∀ x, -1048576 ≤ x → x < z → ¬ P x
  t : ∀ x, z ≤ x → x ≤ 1048576 → P x
theorem Cut.eq {P : Int → Prop} {z z' : Int} (h : Cut P z) (h' : Cut P z') : z = z' := by
  have a := h.lo
  have b := h.hi
  have a' := h'.lo
  have b' := h'.hi
  rcases Int.lt_trichotomy z z' with c | c | c
  · exact absurd (h.t z (Int.le_refl _) (by omega)) (h'.f z (by omega) c)
  · exact c
  · exact absurd (h'.t z' (Int.le_refl _) (by omega)) (h.f z' (by omega) c)
/-- What flows. -/
structure FlowC (a : SAir) (s : SSetting) (i : Nat) (p : Int) (S : SSpan) : Prop where
  l : Cut (fun x => (dropP a s i x).2 > p) (S.Low + 1)
  h : Cut (fun x => (dropP a s i x).1 ≥ p) S.High
theorem FlowC.eq {a : SAir} {s : SSetting} {i : Nat} {p : Int} {S S' : SSpan} (h : FlowC a s i p S) (h' : FlowC a s i p S') : S = S' := by
  have a := h.l.eq h'.l
  have b := h.h.eq h'.h
  cases S
  cases S'
  dsimp only at a b
  rw [show _ = _ from b]
  congr 1
  omega
theorem half {i j : Int} (h0 : 0 ≤ i) (h1 : j ≤ 2097153) (h : i < j) : wr ((IntKind.u64.wrap (wr (i + j))) / 2 ^ (Int.toNat (1 : Int))) = (i + j) / 2 := by
  rw [wr_ok (x := i + j) (by omega) (by omega)]
  have e : IntKind.u64.wrap (i + j) = i + j := by rw [IntKind.wrap_u64]; omega
  rw [e]
  show wr ((i + j) / 2) = _
  exact wr_ok (by omega) (by omega)
/-- A search, with what it is told. -/
theorem search_ex (P : Int → Prop) {step : Int × Int → DT (LR (Int × Int) Int Unit)} (hP : ∀ x y, -1048576 ≤ x → x ≤ y → y ≤ 1048576 → P x → P y)
    (hs : ∀ i j, 0 ≤ i → j ≤ 2097153 → i < j → (P ((i + j) / 2 - 1048576) ∧ (step (j, i)).get = some (.next ((i + j) / 2, i))) ∨ (¬ P ((i + j) / 2 - 1048576) ∧ (step (j, i)).get = some (.next (j, (i + j) / 2 + 1))))
    (hl : ∀ i, (step (i, i)).get = some (.l i)) : ∃ z, fixO step (2097153, 0) = some (.inl z) ∧ Cut P (z - 1048576) ∧ 0 ≤ z ∧ z ≤ 2097153 := by
  have key := loop_ex (step := step) (fun v => 0 ≤ v.2 ∧ v.2 ≤ v.1 ∧ v.1 ≤ 2097153 ∧ (∀ x, -1048576 ≤ x → x < v.2 - 1048576 → ¬ P x) ∧ (∀ x, v.1 - 1048576 ≤ x → x ≤ 1048576 → P x)) (fun v => (v.1 - v.2).toNat)
    (fun z => ∃ y, z = .inl y ∧ Cut P (y - 1048576) ∧ 0 ≤ y ∧ y ≤ 2097153) (fun v hv => by
      obtain ⟨j, i⟩ := v
      obtain ⟨h1, h2, h3, h4, h5⟩ := hv
      dsimp only at h1 h2 h3 h4 h5
      by_cases c : i < j
      · rcases hs i j h1 h3 c with ⟨q, e⟩ | ⟨q, e⟩
        · refine ⟨_, e, ⟨h1, by dsimp only; omega, by dsimp only; omega, h4, fun x a b => ?_⟩, by dsimp only; omega⟩
          exact hP _ _ (by omega) a b q
        · refine ⟨_, e, ⟨by dsimp only; omega, by dsimp only; omega, h3, fun x a b => ?_, h5⟩, by dsimp only; omega⟩
          dsimp only at b
          exact fun hx => q (hP _ _ a (by omega) (by omega) hx)
      · obtain rfl : i = j := by omega
        exact ⟨_, hl i, i, rfl, ⟨by omega, by omega, h4, h5⟩, h1, h3⟩)
    (2097153, 0) ⟨Int.le_refl _, by dsimp only; omega, Int.le_refl _, fun x a b => by dsimp only at b; omega, fun x a b => by dsimp only at a; omega⟩
  obtain ⟨z, hz, y, rfl, g⟩ := key
  exact ⟨y, hz, g⟩
theorem branch_first_ex {a : SAir} {s : SSetting} (ok : RtOK a s) {i : Nat} (hi : i < a.Mine.Roads.n) {w : Sairway} (hw : AwOK a s i w) (p : Int) : ∃ z, branch_first w p = some z ∧ Cut (fun x => (dropP a s i x).2 > p) z := by
  obtain ⟨z, e, c, z0, z1⟩ := search_ex (fun x => (dropP a s i x).2 > p) (step := fun v => sort_Search_l2_step w.Road.From w.Road.To w.Road.Length w.Road.Area w.Road.Walk w.Road.Closed w.Road.Rest.Low w.Road.Rest.High w.Road.Lift.Low w.Road.Lift.High p w.blowers_ v.1 v.2)
    (fun x y hx hxy hy hp => by
      rcases Int.lt_or_le x y with c | c
      · have := (dropP_lt ok hi (show -1048577 ≤ x by omega) c (by omega)).2; omega
      · obtain rfl : x = y := by omega
        exact hp)
    (fun l j h0 h1 hlt => by
      have f1 : branch_first_1 ((l + j) / 2) w p = some (decide ((dropP a s i ((l + j) / 2 - 1048576)).2 > p)) := by
        rw [branch_first_1_eq]; unfold branch_first_1_t
        rw [wr_ok (x := (l + j) / 2 - 1048576) (by omega) (by omega)]
        have f2 : branch_Flow_1 ((l + j) / 2 - 1048576) w p = some (decide ((dropP a s i ((l + j) / 2 - 1048576)).2 > p)) := by
          rw [branch_Flow_1_eq]; unfold branch_Flow_1_t
          rw [get_bind (airway_drop_v ok hi hw (by omega) (by omega))]; rfl
        rw [get_bind f2]; rfl
      dsimp only
      unfold sort_Search_l2_step
      rw [half h0 h1 hlt, get_t (decide_eq_true hlt), get_bind f1]
      by_cases c : (dropP a s i ((l + j) / 2 - 1048576)).2 > p
      · rw [get_f (by simp [c])]; exact .inl ⟨c, rfl⟩
      · rw [get_t (by simp only [decide_eq_false c, Bool.not_false]), wr_ok (x := (l + j) / 2 + 1) (by omega) (by omega)]; exact .inr ⟨c, rfl⟩)
    (fun l => by
      dsimp only
      unfold sort_Search_l2_step
      rw [get_f (decide_eq_false (Int.lt_irrefl _))]; rfl)
  refine ⟨z - 1048576, ?_, c⟩
  rw [branch_first_eq]; unfold branch_first_t
  have f : sort_Search 2097153 w p = some z := by
    rw [sort_Search_eq]; unfold sort_Search_t
    rw [get_sum (by rw [sort_Search_l2_eq]; exact e)]; rfl
  rw [get_bind f, wr_ok (by omega) (by omega)]; rfl
theorem branch_first_v2_ex {a : SAir} {s : SSetting} (ok : RtOK a s) {i : Nat} (hi : i < a.Mine.Roads.n) {w : Sairway} (hw : AwOK a s i w) (p : Int) : ∃ z, branch_first_v2 w p = some z ∧ Cut (fun x => (dropP a s i x).1 ≥ p) z := by
  obtain ⟨z, e, c, z0, z1⟩ := search_ex (fun x => (dropP a s i x).1 ≥ p) (step := fun v => sort_Search_v2_l2_step w.Road.From w.Road.To w.Road.Length w.Road.Area w.Road.Walk w.Road.Closed w.Road.Rest.Low w.Road.Rest.High w.Road.Lift.Low w.Road.Lift.High p w.blowers_ v.1 v.2)
    (fun x y hx hxy hy hp => by
      rcases Int.lt_or_le x y with c | c
      · have := (dropP_lt ok hi (show -1048577 ≤ x by omega) c (by omega)).1; omega
      · obtain rfl : x = y := by omega
        exact hp)
    (fun l j h0 h1 hlt => by
      have f1 : branch_first_1_v2 ((l + j) / 2) w p = some (decide ((dropP a s i ((l + j) / 2 - 1048576)).1 ≥ p)) := by
        rw [branch_first_1_v2_eq]; unfold branch_first_1_v2_t
        rw [wr_ok (x := (l + j) / 2 - 1048576) (by omega) (by omega)]
        have f2 : branch_Flow_2 ((l + j) / 2 - 1048576) w p = some (decide ((dropP a s i ((l + j) / 2 - 1048576)).1 ≥ p)) := by
          rw [branch_Flow_2_eq]; unfold branch_Flow_2_t
          rw [get_bind (airway_drop_v ok hi hw (by omega) (by omega))]; rfl
        rw [get_bind f2]; rfl
      dsimp only
      unfold sort_Search_v2_l2_step
      rw [half h0 h1 hlt, get_t (decide_eq_true hlt), get_bind f1]
      by_cases c : (dropP a s i ((l + j) / 2 - 1048576)).1 ≥ p
      · rw [get_f (by simp [c])]; exact .inl ⟨c, rfl⟩
      · rw [get_t (by simp only [decide_eq_false c, Bool.not_false]), wr_ok (x := (l + j) / 2 + 1) (by omega) (by omega)]; exact .inr ⟨c, rfl⟩)
    (fun l => by
      dsimp only
      unfold sort_Search_v2_l2_step
      rw [get_f (decide_eq_false (Int.lt_irrefl _))]; rfl)
  refine ⟨z - 1048576, ?_, c⟩
  rw [branch_first_v2_eq]; unfold branch_first_v2_t
  have f : sort_Search_v2 2097153 w p = some z := by
    rw [sort_Search_v2_eq]; unfold sort_Search_v2_t
    rw [get_sum (by rw [sort_Search_v2_l2_eq]; exact e)]; rfl
  rw [get_bind f, wr_ok (by omega) (by omega)]; rfl
theorem branch_Flow_ex (a : SAir) (s : SSetting) (road p : Int) : (opB a s road ∧ ∃ S, branch_Flow a s road p = some S ∧ FlowC a s road.toNat p S) ∨ (¬ opB a s road ∧ branch_Flow a s road p = some ⟨0, 0⟩) := by
  rw [branch_Flow_eq]; unfold branch_Flow_t
  rcases branch_open_v a s road with ⟨h, w, e, aw⟩ | ⟨h, w, e⟩
  · have ok := right_ok h.1
    have hi : road.toNat < a.Mine.Roads.n := by have := h.2.1; have := h.2.2.1; omega
    obtain ⟨z1, e1, c1⟩ := branch_first_ex ok hi aw p
    obtain ⟨z2, e2, c2⟩ := branch_first_v2_ex ok hi aw p
    have := c1.lo
    have := c1.hi
    rw [get_bind e, get_f (b := !true) rfl, get_bind e1, get_bind e2, wr_ok (by omega) (by omega)]
    exact .inl ⟨h, _, rfl, by rw [show z1 - 1 + 1 = z1 by omega]; exact c1, c2⟩
  · rw [get_bind e, get_t (b := !false) rfl]
    exact .inr ⟨h, rfl⟩
theorem ref09_Lowest_ex {a : SAir} {s : SSetting} (ok : RtOK a s) {i : Nat} (hi : i < a.Mine.Roads.n) (p : Int) : ∃ z, ref09_Lowest a s i p = some z ∧ Cut (fun x => (dropP a s i x).2 > p) (z + 1) := by
  rw [ref09_Lowest_eq]; unfold ref09_Lowest_t
  have mono : ∀ x y, -1048577 ≤ x → x ≤ y → y ≤ 1048577 → (dropP a s i x).2 ≤ (dropP a s i y).2 := fun x y hx hxy hy => by
    rcases Int.lt_or_le x y with c | c
    · have := (dropP_lt ok hi hx c hy).2; omega
    · obtain rfl : x = y := by omega
      exact Int.le_refl _
  have key := loop_ex (step := fun v : Int × Int => ref09_Lowest_l2_step i p a.Mine.Places a.Mine.Roads a.Fans a.Doors s.Fans s.Doors v.1 v.2)
    (fun v => -1048577 ≤ v.1 ∧ v.1 ≤ v.2 ∧ v.2 ≤ 1048576 ∧ (∀ x, -1048576 ≤ x → x ≤ v.1 → (dropP a s i x).2 ≤ p) ∧ (∀ x, v.2 < x → x ≤ 1048576 → (dropP a s i x).2 > p)) (fun v => (v.2 - v.1).toNat)
    (fun z => ∃ y, z = .inl y ∧ Cut (fun x => (dropP a s i x).2 > p) (y + 1)) (fun v hv => by
      obtain ⟨l, h⟩ := v
      obtain ⟨h1, h2, h3, h4, h5⟩ := hv
      dsimp only at h1 h2 h3 h4 h5 ⊢
      unfold ref09_Lowest_l2_step
      by_cases c : l < h
      · have z1 : wr (l + wr (Int.tdiv (wr (wr (h - l) + 1)) 2)) = l + (h - l + 1) / 2 := by
          rw [wr_ok (x := h - l) (by omega) (by omega), wr_ok (x := h - l + 1) (by omega) (by omega), Int.tdiv_eq_ediv_of_nonneg (by omega), wr_ok (x := (h - l + 1) / 2) (by omega) (by omega), wr_ok (by omega) (by omega)]
        rw [get_t (decide_eq_true c), z1, get_bind (ref09_Inner_v ok hi (by omega) (by omega))]
        by_cases d : (spS (dropP a s i (l + (h - l + 1) / 2))).High ≤ p
        · rw [get_t (decide_eq_true d)]
          have d : (dropP a s i (l + (h - l + 1) / 2)).2 ≤ p := d
          refine ⟨_, rfl, ⟨by dsimp only; omega, by dsimp only; omega, h3, fun x a b => ?_, h5⟩, by dsimp only; omega⟩
          dsimp only at b
          have := mono x (l + (h - l + 1) / 2) (by omega) b (by omega)
          omega
        · rw [get_f (decide_eq_false d), wr_ok (by omega) (by omega)]
          have d : ¬ (dropP a s i (l + (h - l + 1) / 2)).2 ≤ p := d
          refine ⟨_, rfl, ⟨h1, by dsimp only; omega, by dsimp only; omega, h4, fun x a b => ?_⟩, by dsimp only; omega⟩
          dsimp only at a
          have := mono (l + (h - l + 1) / 2) x (by omega) (by omega) (by omega)
          omega
      · rw [get_f (decide_eq_false c)]
        obtain rfl : l = h := by omega
        exact ⟨_, rfl, l, rfl, by omega, by omega, fun x a b => by have := h4 x a (by omega); omega, fun x a b => h5 x (by omega) b⟩)
    (-1048577, 1048576) ⟨Int.le_refl _, by dsimp only; omega, Int.le_refl _, fun x a b => by dsimp only at b; omega, fun x a b => by dsimp only at a; omega⟩
  obtain ⟨z, hz, y, rfl, g⟩ := key
  rw [get_sum (by rw [ref09_Lowest_l2_eq]; exact hz)]
  exact ⟨_, rfl, g⟩
theorem ref09_Highest_ex {a : SAir} {s : SSetting} (ok : RtOK a s) {i : Nat} (hi : i < a.Mine.Roads.n) (p : Int) : ∃ z, ref09_Highest a s i p = some z ∧ Cut (fun x => (dropP a s i x).1 ≥ p) z := by
  rw [ref09_Highest_eq]; unfold ref09_Highest_t
  have mono : ∀ x y, -1048577 ≤ x → x ≤ y → y ≤ 1048577 → (dropP a s i x).1 ≤ (dropP a s i y).1 := fun x y hx hxy hy => by
    rcases Int.lt_or_le x y with c | c
    · have := (dropP_lt ok hi hx c hy).1; omega
    · obtain rfl : x = y := by omega
      exact Int.le_refl _
  have key := loop_ex (step := fun v : Int × Int => ref09_Highest_l2_step i p a.Mine.Places a.Mine.Roads a.Fans a.Doors s.Fans s.Doors v.1 v.2)
    (fun v => -1048576 ≤ v.2 ∧ v.2 ≤ v.1 ∧ v.1 ≤ 1048577 ∧ (∀ x, -1048576 ≤ x → x < v.2 → (dropP a s i x).1 < p) ∧ (∀ x, v.1 ≤ x → x ≤ 1048576 → (dropP a s i x).1 ≥ p)) (fun v => (v.1 - v.2).toNat)
    (fun z => ∃ y, z = .inl y ∧ Cut (fun x => (dropP a s i x).1 ≥ p) y) (fun v hv => by
      obtain ⟨h, l⟩ := v
      obtain ⟨h1, h2, h3, h4, h5⟩ := hv
      dsimp only at h1 h2 h3 h4 h5 ⊢
      unfold ref09_Highest_l2_step
      by_cases c : l < h
      · have z1 : wr (l + wr (Int.tdiv (wr (h - l)) 2)) = l + (h - l) / 2 := by
          rw [wr_ok (x := h - l) (by omega) (by omega), Int.tdiv_eq_ediv_of_nonneg (by omega), wr_ok (x := (h - l) / 2) (by omega) (by omega), wr_ok (by omega) (by omega)]
        rw [get_t (decide_eq_true c), z1, get_bind (ref09_Inner_v ok hi (by omega) (by omega))]
        by_cases d : (spS (dropP a s i (l + (h - l) / 2))).Low ≥ p
        · rw [get_t (decide_eq_true d)]
          have d : (dropP a s i (l + (h - l) / 2)).1 ≥ p := d
          refine ⟨_, rfl, ⟨by dsimp only; omega, by dsimp only; omega, by dsimp only; omega, h4, fun x a b => ?_⟩, by dsimp only; omega⟩
          dsimp only at a
          have := mono (l + (h - l) / 2) x (by omega) a (by omega)
          omega
        · rw [get_f (decide_eq_false d), wr_ok (by omega) (by omega)]
          have d : ¬ (dropP a s i (l + (h - l) / 2)).1 ≥ p := d
          refine ⟨_, rfl, ⟨by dsimp only; omega, by dsimp only; omega, h3, fun x a b => ?_, h5⟩, by dsimp only; omega⟩
          dsimp only at b
          have := mono x (l + (h - l) / 2) (by omega) (by omega) (by omega)
          omega
      · rw [get_f (decide_eq_false c)]
        obtain rfl : l = h := by omega
        exact ⟨_, rfl, l, rfl, by omega, by omega, fun x a b => by have := h4 x a (by omega); omega, fun x a b => h5 x a b⟩)
    (1048577, -1048576) ⟨Int.le_refl _, by dsimp only; omega, Int.le_refl _, fun x a b => by dsimp only at b; omega, fun x a b => by dsimp only at a; omega⟩
  obtain ⟨z, hz, y, rfl, g⟩ := key
  rw [get_sum (by rw [ref09_Highest_l2_eq]; exact hz)]
  exact ⟨_, rfl, g⟩
end Go.Proofs.YtnoeblpanfbpjaaGreat.Ab
