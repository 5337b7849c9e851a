/- Stage 9, maths: differences of pressure, by the program and by the document. -/
import Derived.Test.YtnoeblpanfbpjaaGreatXp
import Derived.Test.YtnoeblpanfbpjaaGreatXn
namespace Go.Proofs.YtnoeblpanfbpjaaGreat.Ab
open Go

/-! ### Doors -/
structure RestOK (r : Sq Int) : Prop where
  n0 : 2 ≤ r.n
  n1 : r.n ≤ 6
  f : ∀ i, i < r.n → 0 ≤ r.f i ∧ r.f i ≤ 262144
  m : ∀ i, 0 < i → i < r.n → r.f i < r.f (i - 1)
theorem doorE_rest {l : Sq SDoor} {i : Nat} (h : doorE l i = 0) : RestOK (l.f i).Rests := by
  obtain ⟨h1, h2⟩ := doorE_rests h
  unfold doorE at h
  rw [if_neg (by have := doorE_road (show doorE l i = 0 from h); omega), if_neg (by omega), if_neg (by omega)] at h
  cases ho : firstN (gO (l.f i).Rests) (l.f i).Rests.n 0 with
  | some u => rw [ho] at h; cases h
  | none =>
    rw [ho] at h
    cases hd : firstN (gD (l.f i).Rests) (l.f i).Rests.n 0 with
    | some u => rw [hd] at h; cases h
    | none =>
      refine ⟨h1, h2, fun k hk => ?_, fun k h0 hk => ?_⟩
      · have := firstN_none ho k (by omega) (by omega)
        unfold gO at this
        split at this
        · assumption
        · cases this
      · have := firstN_none hd k (by omega) (by omega)
        unfold gD at this
        split at this
        · cases this
        · rename_i q
          rcases Int.lt_or_le ((l.f i).Rests.f k) ((l.f i).Rests.f (k - 1)) with h | h
          · exact h
          · exact absurd ⟨h0, h⟩ q
theorem RestOK.dec {r : Sq Int} (ok : RestOK r) : ∀ d i, i + d < r.n → r.f (i + d) ≤ r.f i := by
  intro d
  induction d with
  | zero => intro i _; exact Int.le_refl _
  | succ d ih =>
    intro i h
    have h1 := ih i (by omega)
    have h2 := ok.m (i + (d + 1)) (by omega) h
    rw [show i + (d + 1) - 1 = i + d by omega] at h2
    omega
/-- The resistance of a door in a state. -/
def rsS (r : Sq Int) (st : Int) : SSpan := if 0 ≤ st then ⟨r.f st.toNat, r.f st.toNat⟩ else ⟨r.f (r.n - 1), r.f 0⟩
theorem rsS_in {r : Sq Int} (ok : RestOK r) {st : Int} (_ : -1 ≤ st) (h1 : st < r.n) : 0 ≤ (rsS r st).Low ∧ (rsS r st).Low ≤ (rsS r st).High ∧ (rsS r st).High ≤ 262144 := by
  have n0 := ok.n0
  unfold rsS
  split
  · have := ok.f st.toNat (by omega)
    dsimp only
    omega
  · have a := ok.f (r.n - 1) (by omega)
    have b := ok.f 0 (by omega)
    have c := ok.dec (r.n - 1) 0 (by omega)
    rw [Nat.zero_add] at c
    dsimp only
    omega
theorem door_Rest_v {d : SDoor} (ok : RestOK d.Rests) {st : Int} (h0 : -1 ≤ st) (h1 : st < d.Rests.n) : door_Rest d st = some (rsS d.Rests st) := by
  have n0 := ok.n0
  have n1 := ok.n1
  rw [door_Rest_eq]; unfold door_Rest_t rsS
  rw [get_bind (door_has_v _ _)]
  by_cases a : 0 ≤ st
  · rw [get_t (decide_eq_true ⟨a, h1⟩), get_t (decide_eq_true ⟨a, h1⟩), get_t (decide_eq_true ⟨a, h1⟩), if_pos a]; rfl
  rw [get_f (decide_eq_false (by omega)), get_t (by simp; omega), get_t (decide_eq_true (by omega)), if_neg a]
  have mn : slices_Min d.Rests = some (d.Rests.f (d.Rests.n - 1)) := by
    rw [slices_Min_eq]; unfold slices_Min_t
    rw [get_f (decide_eq_false (by omega)), get_t (decide_eq_true ⟨Int.le_refl _, by omega⟩)]
    have e : slices_Min_l5 d.Rests (d.Rests.f 0) 1 = some (.inl (d.Rests.f (d.Rests.n - 1))) := by
      rw [slices_Min_l5_eq]
      refine loop_seq (step := fun v : Int × Int => slices_Min_l5_step d.Rests v.1 v.2) (z := .l (d.Rests.f (d.Rests.n - 1))) (fun i => (d.Rests.f i, ((i + 1 : Nat) : Int))) (d.Rests.n - 1) (fun i hi => ?_) ?_
      · unfold slices_Min_l5_step
        dsimp only
        have := ok.m (i + 1) (by omega) (by omega)
        rw [show i + 1 - 1 = i by omega] at this
        rw [get_t (dlt (by omega)), get_t (dix (by omega)), toNat_nat, if_pos this, wr_next (by omega)]; rfl
      · unfold slices_Min_l5_step
        dsimp only
        rw [get_f (dge (by omega))]; rfl
    rw [get_sum e]; rfl
  have mx : slices_Max d.Rests = some (d.Rests.f 0) := by
    rw [slices_Max_eq]; unfold slices_Max_t
    rw [get_f (decide_eq_false (by omega)), get_t (decide_eq_true ⟨Int.le_refl _, by omega⟩)]
    have e : slices_Max_l5 d.Rests (d.Rests.f 0) 1 = some (.inl (d.Rests.f 0)) := by
      rw [slices_Max_l5_eq]
      refine loop_seq (step := fun v : Int × Int => slices_Max_l5_step d.Rests v.1 v.2) (z := .l (d.Rests.f 0)) (fun i => (d.Rests.f 0, ((i + 1 : Nat) : Int))) (d.Rests.n - 1) (fun i hi => ?_) ?_
      · unfold slices_Max_l5_step
        dsimp only
        have := ok.dec (i + 1) 0 (by omega)
        rw [Nat.zero_add] at this
        rw [get_t (dlt (by omega)), get_t (dix (by omega)), toNat_nat, if_neg (by omega), wr_next (by omega)]; rfl
      · unfold slices_Max_l5_step
        dsimp only
        rw [get_f (dge (by omega))]; rfl
    rw [get_sum e]; rfl
  rw [get_bind mn, get_bind mx]; rfl
theorem ref08_Rest_v {d : SDoor} (ok : RestOK d.Rests) {st : Int} (h0 : -1 ≤ st) (h1 : st < d.Rests.n) : ref08_Rest d st = some (rsS d.Rests st) := by
  have n0 := ok.n0
  have n1 := ok.n1
  rw [ref08_Rest_eq]; unfold ref08_Rest_t rsS
  rw [get_f (by simp; omega), get_f (decide_eq_false (by omega)), get_f (decide_eq_false (by omega))]
  by_cases a : 0 ≤ st
  · rw [get_t (decide_eq_true a), get_t (decide_eq_true ⟨a, h1⟩), get_t (decide_eq_true ⟨a, h1⟩), if_pos a]; rfl
  rw [get_f (decide_eq_false a), get_t (decide_eq_true ⟨Int.le_refl _, by omega⟩), get_t (decide_eq_true ⟨Int.le_refl _, by omega⟩), if_neg a]
  have e : ref08_Rest_l7 d.Road d.Other d.Rests (d.Rests.f 0) 0 (d.Rests.f 0) = some (.inl (d.Rests.f (d.Rests.n - 1), d.Rests.f 0)) := by
    rw [ref08_Rest_l7_eq]
    refine loop_seq (step := fun v : Int × Int × Int => ref08_Rest_l7_step d.Road d.Other d.Rests v.1 v.2.1 v.2.2) (z := .l (d.Rests.f (d.Rests.n - 1), d.Rests.f 0)) (fun i => (d.Rests.f (i - 1), ((i : Nat) : Int), d.Rests.f 0)) d.Rests.n (fun i hi => ?_) ?_
    · unfold ref08_Rest_l7_step
      dsimp only
      have c := ok.dec i 0 (by omega)
      rw [Nat.zero_add] at c
      rw [get_t (dlt hi), get_t (dix hi), get_t (dix hi), toNat_nat, wr_next (by omega), if_neg (show ¬ d.Rests.f 0 < d.Rests.f i by omega)]
      have e1 : (if d.Rests.f i < d.Rests.f (i - 1) then d.Rests.f i else d.Rests.f (i - 1)) = d.Rests.f (i + 1 - 1) := by
        rw [show i + 1 - 1 = i by omega]
        by_cases hz : i = 0
        · subst hz; rw [if_neg (by simp)]
        · rw [if_pos (ok.m i (by omega) hi)]
      rw [e1]; rfl
    · unfold ref08_Rest_l7_step
      dsimp only
      rw [get_f (dge (Nat.le_refl _))]; rfl
  rw [get_sum e]; rfl

/-! ### What belongs together -/
/-- What a right air and setting is. -/
structure RtOK (a : SAir) (s : SSetting) : Prop where
  m : MineOK a.Mine
  nf : a.Fans.n ≤ 8
  nd : a.Doors.n ≤ 16
  sf : s.Fans.n = a.Fans.n
  sd : s.Doors.n = a.Doors.n
  f : ∀ i, i < a.Fans.n → fanE (a.Fans.f i) = 0 ∧ -1 ≤ s.Fans.f i ∧ s.Fans.f i ≤ 2
  d : ∀ i, i < a.Doors.n → RestOK (a.Doors.f i).Rests ∧ -1 ≤ s.Doors.f i ∧ s.Doors.f i < ((a.Doors.f i).Rests.n : Int)
theorem right_ok {a : SAir} {s : SSetting} (h : rightB a s = true) : RtOK a s := by
  unfold rightB at h
  split at h
  · rename_i hq
    obtain ⟨h1, h2, h3, h4, h5⟩ := hq
    obtain ⟨p1, p2, p3⟩ := airE_parts h1
    obtain ⟨f1, f2, _⟩ := fansE_ok p2
    obtain ⟨d1, d2, _⟩ := doorsE2_ok p3
    refine ⟨(mineE_ok _).1 p1, f1, d1, h2, h3, fun i hi => ⟨f2 i hi, ?_⟩, fun i hi => ⟨doorE_rest (d2 i hi), ?_⟩⟩
    · have := firstN_none h4 i (by omega) (by omega)
      unfold gSf at this
      split at this
      · assumption
      · cases this
    · have := firstN_none h5 i (by omega) (by omega)
      unfold gSd at this
      split at this
      · omega
      · cases this
  · cases h
theorem road_rest {m : SMine} (h : MineOK m) {i : Nat} (hi : i < m.Roads.n) : 1 ≤ (m.Roads.f i).Rest.Low ∧ (m.Roads.f i).Rest.Low ≤ (m.Roads.f i).Rest.High ∧ (m.Roads.f i).Rest.High ≤ 262144 ∧
    -2199023255552 ≤ (m.Roads.f i).Lift.Low ∧ (m.Roads.f i).Lift.Low ≤ (m.Roads.f i).Lift.High ∧ (m.Roads.f i).Lift.High ≤ 2199023255552 ∧ 0 ≤ (m.Roads.f i).From ∧ (m.Roads.f i).From < m.Places.n ∧ 0 ≤ (m.Roads.f i).To ∧ (m.Roads.f i).To < m.Places.n := by
  have := h.r i hi
  unfold roadE at this
  repeat' (split at this; · omega)
  omega
/-- The resistance of a road with its first k doors. -/
def rsum (D : Sq SDoor) (s : Sq Int) (road : Int) (b : Int × Int) : Nat → Int × Int
  | 0 => b
  | k + 1 => if (D.f k).Road = road then ((rsum D s road b k).1 + (rsS (D.f k).Rests (s.f k)).Low, (rsum D s road b k).2 + (rsS (D.f k).Rests (s.f k)).High) else rsum D s road b k
theorem rsum_in {a : SAir} {s : SSetting} (ok : RtOK a s) (road : Int) {b : Int × Int} (h0 : 1 ≤ b.1) (h1 : b.1 ≤ b.2) (h2 : b.2 ≤ 262144) : ∀ k, k ≤ a.Doors.n → 1 ≤ (rsum a.Doors s.Doors road b k).1 ∧ (rsum a.Doors s.Doors road b k).1 ≤ (rsum a.Doors s.Doors road b k).2 ∧ (rsum a.Doors s.Doors road b k).2 ≤ 262144 * ((k : Int) + 1) := by
  intro k
  induction k with
  | zero => intro _; exact ⟨h0, h1, by show b.2 ≤ _; omega⟩
  | succ k ih =>
    intro hk
    obtain ⟨i1, i2, i3⟩ := ih (by omega)
    obtain ⟨d1, d2, d3⟩ := ok.d k (by omega)
    obtain ⟨r1, r2, r3⟩ := rsS_in d1 d2 d3
    unfold rsum
    split
    · dsimp only; omega
    · omega
/-- What is left behind the first k fans. -/
def fsum (F : Sq SFan) (s : Sq Int) (road x : Int) (b : Int × Int) : Nat → Int × Int
  | 0 => b
  | k + 1 => if (F.f k).Road = road then ((fsum F s road x b k).1 - (stS (F.f k) (s.f k) x).High, (fsum F s road x b k).2 - (stS (F.f k) (s.f k) x).Low) else fsum F s road x b k
/-- The resistance's part: b times the square. -/
def sqS (lo hi x : Int) : Int × Int := if x < 0 then (-(hi * (x * x)), -(lo * (x * x))) else (lo * (x * x), hi * (x * x))
/-- The difference of pressure at a flow. -/
def dropP (a : SAir) (s : SSetting) (i : Nat) (x : Int) : Int × Int :=
  let r := a.Mine.Roads.f i
  let b := rsum a.Doors s.Doors i (r.Rest.Low, r.Rest.High) a.Doors.n
  fsum a.Fans s.Fans i x ((sqS b.1 b.2 x).1 - r.Lift.High, (sqS b.1 b.2 x).2 - r.Lift.Low) a.Fans.n
theorem press_ok {c : Sq SPoint} (ok : okC c) (x : Int) : 0 ≤ (prS c x).Low ∧ (prS c x).Low ≤ (prS c x).High ∧ (prS c x).High ≤ 2199023255552 := by
  obtain ⟨h1, _, h3, h4, _⟩ := press_in ok x
  exact ⟨h3, h1, h4⟩
theorem blow_ok {c : Sq SPoint} (ok : okC c) (b : Bool) (x : Int) : -2199023255552 ≤ (blowS c b x).Low ∧ (blowS c b x).Low ≤ (blowS c b x).High ∧ (blowS c b x).High ≤ 2199023255552 := by
  unfold blowS
  split
  · obtain ⟨h1, h2, h3⟩ := press_ok ok (wr (0 - x))
    unfold turnS
    rw [wr_ok (x := 0 - (prS c (wr (0 - x))).High) (by omega) (by omega), wr_ok (x := 0 - (prS c (wr (0 - x))).Low) (by omega) (by omega)]
    dsimp only
    omega
  · obtain ⟨h1, h2, h3⟩ := press_ok ok x
    omega
theorem stS_in {f : SFan} (h : fanE f = 0) (st x : Int) : -2199023255552 ≤ (stS f st x).Low ∧ (stS f st x).Low ≤ (stS f st x).High ∧ (stS f st x).High ≤ 2199023255552 := by
  have ok := fanE_curve h
  unfold stS
  split
  · dsimp only; omega
  · split
    · exact blow_ok ok _ _
    · split
      · exact blow_ok ok _ _
      · have a := blow_ok ok f.Back x
        have b := blow_ok ok (!f.Back) x
        dsimp only
        unfold minI maxI
        refine ⟨?_, ?_, ?_⟩
        all_goals (repeat' split)
        all_goals omega
theorem fsum_in {a : SAir} {s : SSetting} (ok : RtOK a s) (road x : Int) (b : Int × Int) (hb : b.1 ≤ b.2) : ∀ k, k ≤ a.Fans.n → b.1 - 2199023255552 * k ≤ (fsum a.Fans s.Fans road x b k).1 ∧ (fsum a.Fans s.Fans road x b k).1 ≤ (fsum a.Fans s.Fans road x b k).2 ∧ (fsum a.Fans s.Fans road x b k).2 ≤ b.2 + 2199023255552 * k ∧
    (fsum a.Fans s.Fans road x b k).1 ≤ b.1 + 2199023255552 * k ∧ b.2 - 2199023255552 * k ≤ (fsum a.Fans s.Fans road x b k).2 := by
  intro k
  induction k with
  | zero => intro _; show b.1 - _ ≤ b.1 ∧ b.1 ≤ b.2 ∧ b.2 ≤ _ ∧ b.1 ≤ _ ∧ _ ≤ b.2; omega
  | succ k ih =>
    intro hk
    have i := ih (by omega)
    obtain ⟨f1, f2, f3⟩ := ok.f k (by omega)
    have q := stS_in f1 (s.Fans.f k) x
    unfold fsum
    split
    · dsimp only; omega
    · omega
end Go.Proofs.YtnoeblpanfbpjaaGreat.Ab
