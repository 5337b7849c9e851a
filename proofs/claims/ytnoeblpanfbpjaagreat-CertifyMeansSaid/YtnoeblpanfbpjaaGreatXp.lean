/- Stage 9, maths: what fans give, by the program and by the document. -/
import Derived.Test.YtnoeblpanfbpjaaGreatXc
import Derived.Test.YtnoeblpanfbpjaaGreatXm
namespace Go.Proofs.YtnoeblpanfbpjaaGreat.Ab
open Go

/-- A right curve. -/
structure OkP (p : Nat → Int × Int) (n : Nat) : Prop where
  lo : 1 ≤ n
  hi : n ≤ 8
  rg : ∀ i, i < n → -1048576 ≤ (p i).1 ∧ (p i).1 ≤ 1048576 ∧ 0 ≤ (p i).2 ∧ (p i).2 ≤ 2199023255552
  dn : ∀ i, 0 < i → i < n → (p (i - 1)).1 < (p i).1 ∧ (p i).2 ≤ (p (i - 1)).2
/-- The first point at or behind a flow. -/
def idxFrom (p : Nat → Int × Int) (x : Int) : Nat → Nat → Int
  | 0, _ => -1
  | k + 1, i => if (p i).1 ≥ x then i else idxFrom p x k (i + 1)
theorem idxFrom_lo (p : Nat → Int × Int) (x : Int) : ∀ k i, idxFrom p x k i = -1 ∨ ((i : Int) ≤ idxFrom p x k i ∧ idxFrom p x k i < i + k ∧ (p (idxFrom p x k i).toNat).1 ≥ x ∧ ∀ j : Nat, i ≤ j → (j : Int) < idxFrom p x k i → (p j).1 < x) := by
  intro k
  induction k with
  | zero => intro i; exact .inl rfl
  | succ k ih =>
    intro i
    unfold idxFrom
    split
    · rename_i h; exact .inr ⟨Int.le_refl _, by omega, h, fun j h1 h2 => by omega⟩
    · rename_i h
      rcases ih (i + 1) with h2 | ⟨h2, h3, h4, h5⟩
      · exact .inl h2
      · refine .inr ⟨by omega, by omega, h4, fun j h6 h7 => ?_⟩
        by_cases hj : j = i
        · subst hj; omega
        · exact h5 j (by omega) h7
theorem idxFrom_none (p : Nat → Int × Int) (x : Int) : ∀ k i, idxFrom p x k i = -1 → ∀ j, i ≤ j → j < i + k → (p j).1 < x := by
  intro k
  induction k with
  | zero => intro i _ j h1 h2; omega
  | succ k ih =>
    intro i h j h1 h2
    unfold idxFrom at h
    split at h
    · omega
    · by_cases hj : j = i
      · subst hj; omega
      · exact ih (i + 1) h j (by omega) (by omega)
def lossV (a b : Int × Int) (x : Int) : Int := wr (wr (a.2 - b.2) * wr (x - a.1))
def wideV (a b : Int × Int) : Int := wr (b.1 - a.1)
def hiV (a b : Int × Int) (x : Int) : Int := wr (a.2 - wr ((lossV a b x).tdiv (wideV a b)))
def btwV (a b : Int × Int) (x : Int) : Int × Int := match decide ((lossV a b x).tmod (wideV a b) > 0) with
  | true => (wr (hiV a b x - 1), hiV a b x)
  | false => (hiV a b x, hiV a b x)
def pressV (p : Nat → Int × Int) (n : Nat) (x : Int) : Int × Int :=
  if idxFrom p x n 0 = 0 then ((p 0).2, (p 0).2) else if idxFrom p x n 0 = -1 then ((p (n - 1)).2, (p (n - 1)).2) else btwV (p ((idxFrom p x n 0).toNat - 1)) (p (idxFrom p x n 0).toNat) x
/-- The place where a flow lies: n if behind all. -/
def placeV (p : Nat → Int × Int) (n : Nat) (x : Int) : Nat := if idxFrom p x n 0 = -1 then n else (idxFrom p x n 0).toNat
theorem place_lt {p : Nat → Int × Int} {n : Nat} {x : Int} {j : Nat} (h : j < placeV p n x) : (p j).1 < x := by
  unfold placeV at h
  split at h
  · rename_i h0; exact idxFrom_none p x n 0 h0 j (Nat.zero_le _) (by omega)
  · rename_i h0
    rcases idxFrom_lo p x n 0 with h1 | ⟨_, _, _, h4⟩
    · exact absurd h1 h0
    · exact h4 j (Nat.zero_le _) (by omega)
theorem place_ge {p : Nat → Int × Int} {n : Nat} {x : Int} (h : placeV p n x < n) : (p (placeV p n x)).1 ≥ x := by
  unfold placeV at h ⊢
  split
  · rename_i h0; rw [if_pos h0] at h; omega
  · rename_i h0
    rcases idxFrom_lo p x n 0 with h1 | ⟨_, _, h3, _⟩
    · exact absurd h1 h0
    · exact h3
theorem place_le (p : Nat → Int × Int) (n : Nat) (x : Int) : placeV p n x ≤ n := by
  unfold placeV
  split
  · omega
  · rename_i h0
    rcases idxFrom_lo p x n 0 with h1 | ⟨_, h2, _, _⟩
    · exact absurd h1 h0
    · omega
theorem place_mono {p : Nat → Int × Int} {n : Nat} {x y : Int} (h : x ≤ y) : placeV p n x ≤ placeV p n y := by
  rcases Nat.lt_or_ge (placeV p n y) (placeV p n x) with h1 | h1
  · have h2 := place_lt h1
    have h3 := place_ge (p := p) (n := n) (x := y) (by have := place_le p n x; omega)
    omega
  · exact h1
/-- The line between two points, without limits of numbers. -/
structure Seg (a b : Int × Int) (x : Int) (q r : Int) : Prop where
  q0 : 0 ≤ q
  r0 : 0 ≤ r
  rl : r < b.1 - a.1
  eq : (a.2 - b.2) * (x - a.1) = (b.1 - a.1) * q + r
  val : btwV a b x = (if r > 0 then a.2 - q - 1 else a.2 - q, a.2 - q)
  lo : q ≤ a.2 - b.2
  lo2 : r > 0 → q + 1 ≤ a.2 - b.2
theorem seg_of {a b : Int × Int} {x : Int} (ha : -1048576 ≤ a.1 ∧ a.1 ≤ 1048576 ∧ 0 ≤ a.2 ∧ a.2 ≤ 2199023255552) (hb : -1048576 ≤ b.1 ∧ b.1 ≤ 1048576 ∧ 0 ≤ b.2 ∧ b.2 ≤ 2199023255552)
    (h1 : a.1 < x) (h2 : x ≤ b.1) (h3 : b.2 ≤ a.2) : ∃ q r, Seg a b x q r := by
  have hw : wideV a b = b.1 - a.1 := by unfold wideV wr; rw [IntKind.wrap_i64]; omega
  have hd : wr (a.2 - b.2) = a.2 - b.2 := by unfold wr; rw [IntKind.wrap_i64]; omega
  have ht : wr (x - a.1) = x - a.1 := by unfold wr; rw [IntKind.wrap_i64]; omega
  have l0 : 0 ≤ (a.2 - b.2) * (x - a.1) := Int.mul_nonneg (by omega) (by omega)
  have l1 : (a.2 - b.2) * (x - a.1) ≤ (a.2 - b.2) * (b.1 - a.1) := Int.mul_le_mul_of_nonneg_left (by omega) (by omega)
  have l2 : (a.2 - b.2) * (b.1 - a.1) ≤ 2199023255552 * 2097152 := Int.mul_le_mul (by omega) (by omega) (by omega) (by omega)
  have hl : lossV a b x = (a.2 - b.2) * (x - a.1) := by
    unfold lossV
    rw [hd, ht]
    unfold wr
    rw [IntKind.wrap_i64]
    generalize (a.2 - b.2) * (x - a.1) = l at l0 l1 ⊢
    omega
  have w0 : 0 < b.1 - a.1 := by omega
  generalize hlv : (a.2 - b.2) * (x - a.1) = l at l0 l1 hl
  have e1 : l.tdiv (b.1 - a.1) = l / (b.1 - a.1) := Int.tdiv_eq_ediv_of_nonneg l0
  have e2 : l.tmod (b.1 - a.1) = l % (b.1 - a.1) := Int.tmod_eq_emod_of_nonneg l0
  have q0 : 0 ≤ l / (b.1 - a.1) := Int.ediv_nonneg l0 (by omega)
  have r0 : 0 ≤ l % (b.1 - a.1) := Int.emod_nonneg l (by omega)
  have rl : l % (b.1 - a.1) < b.1 - a.1 := Int.emod_lt_of_pos l w0
  have de : (b.1 - a.1) * (l / (b.1 - a.1)) + l % (b.1 - a.1) = l := Int.mul_ediv_add_emod l (b.1 - a.1)
  have ql : l / (b.1 - a.1) ≤ a.2 - b.2 := Int.ediv_le_of_le_mul w0 (by rw [← hlv] at l1; rw [← hlv]; exact l1)
  have hi : hiV a b x = a.2 - l / (b.1 - a.1) := by
    unfold hiV
    rw [hl, hw, e1]
    unfold wr
    rw [IntKind.wrap_i64, IntKind.wrap_i64]
    omega
  refine ⟨l / (b.1 - a.1), l % (b.1 - a.1), ⟨q0, r0, rl, by rw [hlv, de], ?_, ql, fun hr => ?_⟩⟩
  · unfold btwV
    rw [hl, hw, e2, hi]
    by_cases hr : l % (b.1 - a.1) > 0
    · rw [if_pos hr, decide_eq_true hr]
      have : wr (a.2 - l / (b.1 - a.1) - 1) = a.2 - l / (b.1 - a.1) - 1 := by unfold wr; rw [IntKind.wrap_i64]; omega
      rw [this]
    · rw [if_neg hr, decide_eq_false hr]
  · rcases (show l / (b.1 - a.1) < a.2 - b.2 ∨ a.2 - b.2 ≤ l / (b.1 - a.1) by omega) with h | h
    · omega
    · have he : l / (b.1 - a.1) = a.2 - b.2 := by omega
      rw [he, Int.mul_comm] at de
      omega
theorem press_at {p : Nat → Int × Int} {n : Nat} (ok : OkP p n) (x : Int) :
    (placeV p n x = 0 ∧ pressV p n x = ((p 0).2, (p 0).2)) ∨ (placeV p n x = n ∧ pressV p n x = ((p (n - 1)).2, (p (n - 1)).2)) ∨
    (0 < placeV p n x ∧ placeV p n x < n ∧ ∃ q r, Seg (p (placeV p n x - 1)) (p (placeV p n x)) x q r ∧ pressV p n x = (if r > 0 then (p (placeV p n x - 1)).2 - q - 1 else (p (placeV p n x - 1)).2 - q, (p (placeV p n x - 1)).2 - q)) := by
  have h1 := ok.lo
  have hlt := @place_lt p n x
  have hge := @place_ge p n x
  have hle := place_le p n x
  have hP : placeV p n x = if idxFrom p x n 0 = -1 then n else (idxFrom p x n 0).toNat := rfl
  have hV : pressV p n x = if idxFrom p x n 0 = 0 then ((p 0).2, (p 0).2) else if idxFrom p x n 0 = -1 then ((p (n - 1)).2, (p (n - 1)).2) else btwV (p ((idxFrom p x n 0).toNat - 1)) (p (idxFrom p x n 0).toNat) x := rfl
  have hi := idxFrom_lo p x n 0
  by_cases c1 : idxFrom p x n 0 = -1
  · rw [if_pos c1] at hP
    rw [if_neg (by omega), if_pos c1] at hV
    exact .inr (.inl ⟨hP, hV⟩)
  rw [if_neg c1] at hP
  rcases hi with hi | ⟨g1, g2, _, _⟩
  · exact absurd hi c1
  by_cases c0 : idxFrom p x n 0 = 0
  · rw [if_pos c0] at hV
    exact .inl ⟨by rw [hP, c0]; rfl, hV⟩
  rw [if_neg c0, if_neg c1, ← hP] at hV
  have hp : 0 < placeV p n x ∧ placeV p n x < n := by omega
  have dn := ok.dn _ hp.1 hp.2
  obtain ⟨q, r, sg⟩ := seg_of (ok.rg _ (show placeV p n x - 1 < n by omega)) (ok.rg _ hp.2) (hlt (show placeV p n x - 1 < placeV p n x by omega)) (hge hp.2) dn.2
  exact .inr (.inr ⟨hp.1, hp.2, q, r, sg, by rw [hV, sg.val]⟩)
theorem dn_all {p : Nat → Int × Int} {n : Nat} (ok : OkP p n) : ∀ (d i : Nat), i + d < n → (p (i + d)).2 ≤ (p i).2 := by
  intro d
  induction d with
  | zero => intro i _; exact Int.le_refl _
  | succ d ih =>
    intro i h
    have h1 := ih i (by omega)
    have h2 := (ok.dn (i + (d + 1)) (by omega) h).2
    have e : i + (d + 1) - 1 = i + d := by omega
    rw [e] at h2
    omega
/-- Where a pressure lies. -/
theorem press_in {p : Nat → Int × Int} {n : Nat} (ok : OkP p n) (x : Int) : (pressV p n x).1 ≤ (pressV p n x).2 ∧ (pressV p n x).2 ≤ (pressV p n x).1 + 1 ∧ 0 ≤ (pressV p n x).1 ∧ (pressV p n x).2 ≤ 2199023255552 ∧
    (placeV p n x < n → (p (placeV p n x)).2 ≤ (pressV p n x).1) ∧ (0 < placeV p n x → (pressV p n x).2 ≤ (p (placeV p n x - 1)).2) := by
  have h1 := ok.lo
  have r0 := ok.rg 0 (by omega)
  have rn := ok.rg (n - 1) (by omega)
  rcases press_at ok x with ⟨e1, e2⟩ | ⟨e1, e2⟩ | ⟨g1, g2, q, r, sg, e2⟩
  · rw [e2, e1]; dsimp only
    exact ⟨by omega, by omega, by omega, by omega, fun _ => by omega, fun h => by omega⟩
  · rw [e2, e1]; dsimp only
    exact ⟨by omega, by omega, by omega, by omega, fun h => by omega, fun _ => by omega⟩
  · have ra := ok.rg (placeV p n x - 1) (by omega)
    have rb := ok.rg (placeV p n x) g2
    have l1 := sg.lo
    have l2 := sg.lo2
    have q0 := sg.q0
    rw [e2]
    dsimp only
    split
    · rename_i hr
      have := l2 hr
      exact ⟨by omega, by omega, by omega, by omega, fun _ => by omega, fun _ => by omega⟩
    · exact ⟨by omega, by omega, by omega, by omega, fun _ => by omega, fun _ => by omega⟩
theorem press_mono {p : Nat → Int × Int} {n : Nat} (ok : OkP p n) {x y : Int} (h : x ≤ y) : (pressV p n y).1 ≤ (pressV p n x).1 ∧ (pressV p n y).2 ≤ (pressV p n x).2 := by
  have hm : placeV p n x ≤ placeV p n y := place_mono h
  have hy := place_le p n y
  have ix := press_in ok x
  have iy := press_in ok y
  by_cases he : placeV p n x = placeV p n y
  · rcases press_at ok x with ⟨e1, e2⟩ | ⟨e1, e2⟩ | ⟨g1, g2, q, r, sg, e2⟩
    · rcases press_at ok y with ⟨e3, e4⟩ | ⟨e3, e4⟩ | ⟨g3, _⟩
      · rw [e2, e4]; exact ⟨Int.le_refl _, Int.le_refl _⟩
      · have := ok.lo; omega
      · omega
    · rcases press_at ok y with ⟨e3, e4⟩ | ⟨e3, e4⟩ | ⟨_, g3, _⟩
      · have := ok.lo; omega
      · rw [e2, e4]; exact ⟨Int.le_refl _, Int.le_refl _⟩
      · omega
    · rcases press_at ok y with ⟨e3, _⟩ | ⟨e3, _⟩ | ⟨_, _, q', r', sg', e4⟩
      · omega
      · omega
      · rw [← he] at sg' e4
        rw [e2, e4]
        dsimp only
        have w0 := sg.rl
        have k1 := sg.eq
        have k2 := sg'.eq
        have r1 := sg.r0
        have r2 := sg'.r0
        have r3 := sg'.rl
        have d0 := (ok.dn _ g1 g2).2
        have km : ((p (placeV p n x - 1)).2 - (p (placeV p n x)).2) * (x - (p (placeV p n x - 1)).1) ≤ ((p (placeV p n x - 1)).2 - (p (placeV p n x)).2) * (y - (p (placeV p n x - 1)).1) := Int.mul_le_mul_of_nonneg_left (by omega) (by omega)
        rw [k1, k2] at km
        have hq : q ≤ q' := by
          rcases (show q' < q ∨ q ≤ q' by omega) with hlt | hge
          · have hge' : q' + 1 ≤ q := by omega
            have := Int.mul_le_mul_of_nonneg_left hge' (show 0 ≤ (p (placeV p n x)).1 - (p (placeV p n x - 1)).1 by omega)
            rw [Int.mul_add, Int.mul_one] at this
            omega
          · exact hge
        have hqr : q = q' → r ≤ r' := fun e => by rw [e] at km; omega
        refine ⟨?_, by omega⟩
        by_cases e : q = q'
        · have := hqr e
          repeat' split
          all_goals omega
        · repeat' split
          all_goals omega
  · have hlt : placeV p n x < placeV p n y := by omega
    have a1 := ix.2.2.2.2.1 (by omega)
    have a2 := iy.2.2.2.2.2 (by omega)
    have a3 := dn_all ok (placeV p n y - 1 - placeV p n x) (placeV p n x) (by omega)
    have e : placeV p n x + (placeV p n y - 1 - placeV p n x) = placeV p n y - 1 := by omega
    rw [e] at a3
    omega
theorem up_all {p : Nat → Int × Int} {n : Nat} (ok : OkP p n) : ∀ (d i : Nat), 0 < d → i + d < n → (p i).1 < (p (i + d)).1 := by
  intro d
  induction d with
  | zero => intro i h; omega
  | succ d ih =>
    intro i _ h
    have h2 := (ok.dn (i + (d + 1)) (by omega) h).1
    have e : i + (d + 1) - 1 = i + d := by omega
    rw [e] at h2
    by_cases hd : d = 0
    · subst hd; exact h2
    · have := ih i (by omega) (by omega)
      omega
/-- The place of a flow behind the point j and up to the point j + 1. -/
theorem place_mid {p : Nat → Int × Int} {n : Nat} (ok : OkP p n) {j : Nat} {x : Int} (hj : j + 1 < n) (h1 : (p j).1 < x) (h2 : x ≤ (p (j + 1)).1) : placeV p n x = j + 1 := by
  have hle := place_le p n x
  rcases Nat.lt_trichotomy (placeV p n x) (j + 1) with h | h | h
  · have g := place_ge (p := p) (n := n) (x := x) (by omega)
    by_cases e : placeV p n x = j
    · rw [e] at g; omega
    · have := up_all ok (j - placeV p n x) (placeV p n x) (by omega) (by omega)
      rw [show placeV p n x + (j - placeV p n x) = j by omega] at this
      omega
  · exact h
  · have := place_lt h
    omega
theorem place_pt {p : Nat → Int × Int} {n : Nat} (ok : OkP p n) {j : Nat} (hj : j < n) : placeV p n (p j).1 = j := by
  by_cases h0 : j = 0
  · subst h0
    rcases Nat.eq_zero_or_pos (placeV p n (p 0).1) with h | h
    · exact h
    · have := place_lt h; omega
  · have e := place_mid ok (j := j - 1) (x := (p j).1) (by omega) (ok.dn j (by omega) hj).1 (by rw [show j - 1 + 1 = j by omega]; exact Int.le_refl _)
    omega
/-- A curve passes through its points. -/
theorem press_pt {p : Nat → Int × Int} {n : Nat} (ok : OkP p n) {j : Nat} (hj : j < n) : pressV p n (p j).1 = ((p j).2, (p j).2) := by
  have e := place_pt ok hj
  rcases press_at ok (p j).1 with ⟨e1, e2⟩ | ⟨e1, e2⟩ | ⟨g1, g2, q, r, sg, e2⟩
  · rw [e2, show j = 0 by omega]
  · omega
  · rw [e] at sg e2 g1
    rw [e2]
    have h1 := sg.eq
    have h2 := sg.rl
    have h3 := sg.r0
    have h4 := sg.lo
    have dn := ok.dn j g1 hj
    generalize (p (j - 1)).2 = a2, (p j).2 = b2, (p (j - 1)).1 = a1, (p j).1 = b1 at h1 h2 h3 h4 dn ⊢
    have hq : q = a2 - b2 := by
      rcases (show q < a2 - b2 ∨ q = a2 - b2 by omega) with hlt | he
      · have := Int.mul_le_mul_of_nonneg_left (show q + 1 ≤ a2 - b2 by omega) (show 0 ≤ b1 - a1 by omega)
        rw [Int.mul_add, Int.mul_one, Int.mul_comm (b1 - a1) (a2 - b2)] at this
        omega
      · exact he
    have hr : r = 0 := by
      rw [hq, Int.mul_comm] at h1
      omega
    rw [if_neg (by omega)]
    congr 1 <;> omega
def floorV (a b : Int) : Int := match decide (a.tmod b < 0) with
  | true => wr (wr (a.tdiv b) - 1)
  | false => wr (a.tdiv b)
def floorG (a b : Int) : Option Int := match b != 0 with
  | true => some (floorV a b)
  | false => none
def ceilG (a b : Int) : Option Int := match floorG (wr (0 - a)) b with
  | some q => some (wr (0 - q))
  | none => none
def segUp (a b : Int × Int) (x : Int) : Int := wr (wr (b.2 - a.2) * wr (x - a.1))
theorem floor_seg {l w q r : Int} (hw : 0 < w) (hl : l = w * q + r) (q0 : 0 ≤ q) (q1 : q ≤ 4398046511104) (r0 : 0 ≤ r) (rl : r < w) : floorV (-l) w = (if r > 0 then -q - 1 else -q) ∧ floorV l w = q := by
  have l0 : 0 ≤ l := by
    have := Int.mul_nonneg (show 0 ≤ w by omega) q0
    omega
  have u : l / w = q ∧ l % w = r := (Int.ediv_emod_unique hw).2 ⟨by omega, r0, rl⟩
  have e1 : l.tdiv w = q := by rw [Int.tdiv_eq_ediv_of_nonneg l0]; exact u.1
  have e2 : l.tmod w = r := by rw [Int.tmod_eq_emod_of_nonneg l0]; exact u.2
  unfold floorV
  rw [Int.neg_tdiv, Int.neg_tmod, e1, e2]
  have w1 : wr (-q) = -q := by unfold wr; rw [IntKind.wrap_i64]; omega
  have w2 : wr (-q - 1) = -q - 1 := by unfold wr; rw [IntKind.wrap_i64]; omega
  have w3 : wr q = q := by unfold wr; rw [IntKind.wrap_i64]; omega
  refine ⟨?_, kf (decide_eq_false (by omega)) w3⟩
  by_cases hr : r > 0
  · rw [if_pos hr]
    exact kt (decide_eq_true (by omega)) (by rw [w1, w2])
  · rw [if_neg hr]
    exact kf (decide_eq_false (by omega)) w1
theorem le_last {p : Nat → Int × Int} {n : Nat} (ok : OkP p n) {j : Nat} (hj : j < n) : (p j).1 ≤ (p (n - 1)).1 := by
  by_cases h : j = n - 1
  · rw [h]; exact Int.le_refl _
  · have := up_all ok (n - 1 - j) j (by omega) (by omega)
    rw [show j + (n - 1 - j) = n - 1 by omega] at this
    omega
theorem press_first {p : Nat → Int × Int} {n : Nat} (ok : OkP p n) {x : Int} (h : x ≤ (p 0).1) : pressV p n x = ((p 0).2, (p 0).2) := by
  have h1 := ok.lo
  rcases press_at ok x with ⟨_, e2⟩ | ⟨e1, _⟩ | ⟨g1, _⟩
  · exact e2
  · have := place_lt (p := p) (n := n) (x := x) (j := 0) (by omega); omega
  · have := place_lt (p := p) (n := n) (x := x) (j := 0) (by omega); omega
theorem press_last {p : Nat → Int × Int} {n : Nat} (ok : OkP p n) {x : Int} (h : (p (n - 1)).1 ≤ x) : pressV p n x = ((p (n - 1)).2, (p (n - 1)).2) := by
  have h1 := ok.lo
  by_cases e : x = (p (n - 1)).1
  · rw [e]; exact press_pt ok (by omega)
  · rcases press_at ok x with ⟨e1, _⟩ | ⟨_, e2⟩ | ⟨_, g2, _⟩
    · have := place_ge (p := p) (n := n) (x := x) (by omega)
      rw [e1] at this
      have := le_last ok (show 0 < n by omega)
      omega
    · exact e2
    · have := place_ge (p := p) (n := n) (x := x) g2
      have := le_last ok g2
      omega
/-- What the document says on a line, is what the program says. -/
theorem seg_ref {a b : Int × Int} {x q r : Int} (ha : -1048576 ≤ a.1 ∧ a.1 ≤ 1048576 ∧ 0 ≤ a.2 ∧ a.2 ≤ 2199023255552) (hb : -1048576 ≤ b.1 ∧ b.1 ≤ 1048576 ∧ 0 ≤ b.2 ∧ b.2 ≤ 2199023255552)
    (h1 : a.1 ≤ x) (h2 : x ≤ b.1) (h3 : b.2 ≤ a.2) (hw : a.1 < b.1) (q0 : 0 ≤ q) (q1 : q ≤ a.2 - b.2) (r0 : 0 ≤ r) (rl : r < b.1 - a.1) (eq : (a.2 - b.2) * (x - a.1) = (b.1 - a.1) * q + r) :
    floorG (segUp a b x) (wideV a b) = some (if r > 0 then -q - 1 else -q) ∧ ceilG (segUp a b x) (wideV a b) = some (-q) := by
  have hwd : wideV a b = b.1 - a.1 := by unfold wideV wr; rw [IntKind.wrap_i64]; omega
  have hd : wr (b.2 - a.2) = b.2 - a.2 := by unfold wr; rw [IntKind.wrap_i64]; omega
  have ht : wr (x - a.1) = x - a.1 := by unfold wr; rw [IntKind.wrap_i64]; omega
  have l0 : 0 ≤ (a.2 - b.2) * (x - a.1) := Int.mul_nonneg (by omega) (by omega)
  have l1 : (a.2 - b.2) * (x - a.1) ≤ 2199023255552 * 2097152 := Int.mul_le_mul (by omega) (by omega) (by omega) (by omega)
  have hu : segUp a b x = -((a.2 - b.2) * (x - a.1)) := by
    unfold segUp
    rw [hd, ht, show b.2 - a.2 = -(a.2 - b.2) by omega, Int.neg_mul]
    unfold wr
    rw [IntKind.wrap_i64]
    generalize (a.2 - b.2) * (x - a.1) = l at l0 l1 ⊢
    omega
  rw [hu, hwd]
  generalize (a.2 - b.2) * (x - a.1) = l at l0 l1 eq ⊢
  have fs := floor_seg (l := l) (w := b.1 - a.1) (q := q) (r := r) (by omega) eq q0 (by omega) r0 rl
  have hn : wr (0 - -l) = l := by unfold wr; rw [IntKind.wrap_i64]; omega
  have hq : wr (0 - q) = -q := by unfold wr; rw [IntKind.wrap_i64]; omega
  have hne : (b.1 - a.1 != 0) = true := by simp; omega
  unfold ceilG floorG
  rw [hne, hn, fs.1, fs.2]
  dsimp only
  rw [hq]
  exact ⟨rfl, rfl⟩

/-! ### Curves -/
def pOf (c : Sq SPoint) (i : Nat) : Int × Int := ((c.f i).Flow, (c.f i).Pressure)
def spS (s : Int × Int) : SSpan := ⟨s.1, s.2⟩
def okC (c : Sq SPoint) : Prop := OkP (pOf c) c.n
theorem fanE_curve {f : SFan} (h : fanE f = 0) : okC f.Curve := by
  unfold fanE at h
  by_cases h0 : f.Road < 0
  · rw [if_pos h0] at h; cases h
  rw [if_neg h0] at h
  by_cases h1 : f.Curve.n = 0
  · rw [if_pos h1] at h; cases h
  rw [if_neg h1] at h
  by_cases h2 : f.Curve.n > 8
  · rw [if_pos h2] at h; cases h
  rw [if_neg h2] at h
  have hne : ∀ i z, gC f.Curve i = some z → z ≠ 0 := by
    intro i z h
    unfold gC at h
    split at h
    · injection h with h; omega
    · split at h
      · injection h with h; omega
      · split at h
        · injection h with h; omega
        · cases h
  have hn := firstN_err hne h
  have all : ∀ i, i < f.Curve.n → (-1048576 ≤ (f.Curve.f i).Flow ∧ (f.Curve.f i).Flow ≤ 1048576) ∧ (0 ≤ (f.Curve.f i).Pressure ∧ (f.Curve.f i).Pressure ≤ 2199023255552) ∧ (0 < i → (f.Curve.f (i - 1)).Flow < (f.Curve.f i).Flow ∧ (f.Curve.f i).Pressure ≤ (f.Curve.f (i - 1)).Pressure) := by
    intro i hi
    have := firstN_none hn i (by omega) (by omega)
    unfold gC at this
    by_cases a1 : -1048576 ≤ (f.Curve.f i).Flow ∧ (f.Curve.f i).Flow ≤ 1048576
    · rw [if_neg (not_not_intro a1)] at this
      by_cases a2 : 0 ≤ (f.Curve.f i).Pressure ∧ (f.Curve.f i).Pressure ≤ 2199023255552
      · rw [if_neg (not_not_intro a2)] at this
        refine ⟨a1, a2, fun h0 => ?_⟩
        split at this
        · cases this
        · rename_i h3
          exact Classical.not_not.1 fun h4 => h3 ⟨h0, h4⟩
      · rw [if_pos a2] at this; cases this
    · rw [if_pos a1] at this; cases this
  exact ⟨by omega, by omega, fun i hi => ⟨(all i hi).1.1, (all i hi).1.2, (all i hi).2.1.1, (all i hi).2.1.2⟩, fun i h0 hi => (all i hi).2.2 h0⟩
def gIdx (c : Sq SPoint) (x : Int) (i : Nat) : Option Int := if (c.f i).Flow ≥ x then some (i : Int) else none
theorem gIdx_eq (c : Sq SPoint) (x : Int) : ∀ k i, (match firstN (gIdx c x) k i with | some z => z | none => -1) = idxFrom (pOf c) x k i := by
  intro k
  induction k with
  | zero => intro i; rfl
  | succ k ih =>
    intro i
    unfold firstN idxFrom gIdx
    by_cases h : (c.f i).Flow ≥ x
    · rw [if_pos h, if_pos (show (pOf c i).1 ≥ x from h)]
    · rw [if_neg h, if_neg (show ¬ (pOf c i).1 ≥ x from h)]; exact ih (i + 1)
theorem slices_IndexFunc_Point_v (c : Sq SPoint) (x : Int) (h : c.n ≤ 8) : slices_IndexFunc_Point c x = some (idxFrom (pOf c) x c.n 0) := by
  rw [slices_IndexFunc_Point_eq]; unfold slices_IndexFunc_Point_t
  have e : slices_IndexFunc_Point_l2 c x 0 = some (sumO (firstN (gIdx c x) c.n 0)) := by
    rw [slices_IndexFunc_Point_l2_eq, ← sumO_eq]
    refine loop_first (step := fun v => slices_IndexFunc_Point_l2_step c x v) (gIdx c x) (fun i hi => ?_) ?_ c.n 0 (Nat.zero_add _)
    · unfold slices_IndexFunc_Point_l2_step gIdx
      have e1 : ∀ p, fan_pressure_1 p x = some (decide (p.Flow ≥ x)) := fun p => by rw [fan_pressure_1_eq]; rfl
      rw [get_t (dlt hi), get_t (dix hi), wr_next (by omega), toNat_nat, get_bind (e1 _)]
      by_cases a : (c.f i).Flow ≥ x
      · rw [get_t (decide_eq_true a), if_pos a]; rfl
      · rw [get_f (decide_eq_false a), if_neg a]; rfl
    · unfold slices_IndexFunc_Point_l2_step
      rw [get_f (dge (Nat.le_refl _))]
      rfl
  rw [get_sum e, ← gIdx_eq]
  cases firstN (gIdx c x) c.n 0 <;> rfl
theorem fan_exactly_v (n : Int) : fan_exactly n = some ⟨n, n⟩ := by rw [fan_exactly_eq]; rfl
theorem fan_between_v (a b : SPoint) (x : Int) (h : (wideV (a.Flow, a.Pressure) (b.Flow, b.Pressure) != 0) = true) : fan_between a b x = some (spS (btwV (a.Flow, a.Pressure) (b.Flow, b.Pressure) x)) := by
  rw [fan_between_eq]; unfold fan_between_t
  have h : (wr (b.Flow - a.Flow) != 0) = true := h
  rw [get_t h, get_bind (fan_exactly_v _), get_t h]
  unfold btwV
  by_cases q : (lossV (a.Flow, a.Pressure) (b.Flow, b.Pressure) x).tmod (wideV (a.Flow, a.Pressure) (b.Flow, b.Pressure)) > 0
  · rw [decide_eq_true q]; exact get_t (decide_eq_true q)
  · rw [decide_eq_false q]; exact get_f (decide_eq_false q)
/-- What a curve gives. -/
def prS (c : Sq SPoint) (x : Int) : SSpan := spS (pressV (pOf c) c.n x)
theorem fan_pressure_v {c : Sq SPoint} (ok : okC c) (x : Int) : fan_pressure c x = some (prS c x) := by
  have h1 := ok.lo
  have h2 := ok.hi
  rw [fan_pressure_eq]; unfold fan_pressure_t prS pressV
  rw [get_bind (slices_IndexFunc_Point_v c x h2)]
  have hi := idxFrom_lo (pOf c) x c.n 0
  generalize idxFrom (pOf c) x c.n 0 = i at hi ⊢
  by_cases c0 : i = 0
  · rw [if_pos c0, get_t (by simp [c0]), get_t (decide_eq_true ⟨Int.le_refl _, by omega⟩), get_bind (fan_exactly_v _)]; rfl
  rw [if_neg c0, get_f (by simp [c0])]
  by_cases c1 : i = -1
  · rw [if_pos c1, get_t (by simp [c1]), last_nat2 (by omega) (by omega), get_t (dix (by omega)), toNat_nat, get_bind (fan_exactly_v _)]; rfl
  rw [if_neg c1, get_f (by simp [c1])]
  rcases hi with hi | ⟨g1, g2, _, _⟩
  · exact absurd hi c1
  have e : wr (i - 1) = ((i.toNat - 1 : Nat) : Int) := by rw [wr_ok (by omega) (by omega)]; omega
  have hd := ok.dn i.toNat (by omega) (by omega)
  have hr1 := ok.rg i.toNat (by omega)
  have hr0 := ok.rg (i.toNat - 1) (by omega)
  have hw : (wideV (pOf c (i.toNat - 1)) (pOf c i.toNat) != 0) = true := by
    unfold wideV
    rw [wr_ok (by omega) (by omega)]
    simp
    omega
  rw [e, get_t (dix (by omega)), get_t (decide_eq_true ⟨by omega, by omega⟩), toNat_nat, get_bind (fan_between_v _ _ _ hw)]
  rfl
/-- Turned round. -/
def turnS (s : SSpan) : SSpan := ⟨wr (0 - s.High), wr (0 - s.Low)⟩
def blowS (c : Sq SPoint) (back : Bool) (x : Int) : SSpan := if back = true then turnS (prS c (wr (0 - x))) else prS c x
theorem fan_blowing_v {c : Sq SPoint} (ok : okC c) (back : Bool) (x : Int) : fan_blowing c back x = some (blowS c back x) := by
  rw [fan_blowing_eq]; unfold fan_blowing_t blowS
  cases back with
  | true => rw [get_f (b := !true) rfl, get_bind (fan_pressure_v ok _), if_pos rfl]; rfl
  | false => rw [get_t (b := !false) rfl, get_bind (fan_pressure_v ok _), if_neg (by simp)]; rfl
def minI (a b : Int) : Int := if b < a then b else a
def maxI (a b : Int) : Int := if a < b then b else a
/-- What a fan gives in a state. -/
def stS (f : SFan) (st x : Int) : SSpan :=
  if st = 0 then ⟨0, 0⟩ else if st = 1 then blowS f.Curve f.Back x else if st = 2 then blowS f.Curve (!f.Back) x
  else ⟨minI (minI 0 (blowS f.Curve f.Back x).Low) (blowS f.Curve (!f.Back) x).Low, maxI (maxI 0 (blowS f.Curve f.Back x).High) (blowS f.Curve (!f.Back) x).High⟩
theorem fan_At_v {f : SFan} (h : fanE f = 0) {st : Int} (hs : -1 ≤ st ∧ st ≤ 2) (x : Int) (hx : -1048577 ≤ x ∧ x ≤ 1048577) : fan_At f st x = some (stS f st x) := by
  have ok := fanE_curve h
  rw [fan_At_eq]; unfold fan_At_t stS
  rw [get_bind (fan_Check_v f), get_f (by simp [h]), get_bind (fan_within_v _ _ _), get_f (by simp only [decide_eq_true hx, Bool.not_true])]
  by_cases c1 : st = 1
  · rw [get_t (by simp [c1]), get_bind (fan_blowing_v ok _ _), if_neg (show ¬ st = 0 by omega), if_pos c1]; rfl
  rw [get_f (by simp [c1])]
  by_cases c2 : st = 2
  · rw [get_t (by simp [c2]), get_bind (fan_blowing_v ok _ _), if_neg (show ¬ st = 0 by omega), if_neg c1, if_pos c2]; rfl
  rw [get_f (by simp [c2])]
  by_cases c3 : st = -1
  · rw [get_t (by simp [c3]), get_bind (fan_blowing_v ok _ _), get_bind (fan_blowing_v ok _ _), if_neg (show ¬ st = 0 by omega), if_neg c1, if_neg c2]; rfl
  · rw [get_f (by simp [c3]), if_pos (show st = 0 by omega)]; rfl

/-! ### The document's -/
theorem ref05_Floor_v (a b : Int) (h : (b != 0) = true) : ref05_Floor a b = some (floorV a b) := by
  rw [ref05_Floor_eq]; unfold ref05_Floor_t floorV
  rw [get_t h, get_t h]
  by_cases q : a.tmod b < 0
  · rw [get_t (decide_eq_true q), decide_eq_true q]; rfl
  · rw [get_f (decide_eq_false q), decide_eq_false q]; rfl
theorem ref05_Ceil_v (a b : Int) (h : (b != 0) = true) : ref05_Ceil a b = some (wr (0 - floorV (wr (0 - a)) b)) := by
  rw [ref05_Ceil_eq]; unfold ref05_Ceil_t
  rw [get_bind (ref05_Floor_v _ _ h)]; rfl
theorem ref07_l7_v {c : Sq SPoint} (ok : okC c) (x a : Int) (b d : Bool) (h0 : (pOf c 0).1 < x) (h1 : x < (pOf c (c.n - 1)).1) :
    ∃ k : Nat, ref07_Inner_l7 x a b d c 0 = some (.inl (k : Int)) ∧ k + 1 < c.n ∧ (pOf c k).1 ≤ x ∧ x < (pOf c (k + 1)).1 := by
  have l1 := ok.lo
  have l2 := ok.hi
  have key := loop_ex (step := fun v => ref07_Inner_l7_step x a b d c v) (fun v => ∃ k : Nat, v = k ∧ k + 1 < c.n ∧ (pOf c k).1 ≤ x) (fun v => c.n - v.toNat)
    (fun z => ∃ k : Nat, z = .inl (k : Int) ∧ k + 1 < c.n ∧ (pOf c k).1 ≤ x ∧ x < (pOf c (k + 1)).1) (fun v hv => by
      obtain ⟨k, rfl, hk, hx⟩ := hv
      unfold ref07_Inner_l7_step
      rw [wr_next (by omega), get_t (dix hk), toNat_nat]
      by_cases q : (c.f (k + 1)).Flow ≤ x
      · rw [get_t (decide_eq_true q)]
        refine ⟨_, rfl, ⟨k + 1, rfl, ?_, q⟩, by omega⟩
        rcases Nat.lt_or_ge (k + 1 + 1) c.n with h | h
        · exact h
        · have e : c.n - 1 = k + 1 := by omega
          rw [e] at h1
          have : (pOf c (k + 1)).1 = (c.f (k + 1)).Flow := rfl
          omega
      · rw [get_f (decide_eq_false q)]
        exact ⟨_, rfl, k, rfl, hk, hx, by show x < (c.f (k + 1)).Flow; omega⟩)
    0 ⟨0, rfl, by
      rcases Nat.lt_or_ge (0 + 1) c.n with h | h
      · exact h
      · have e : c.n - 1 = 0 := by omega
        rw [e] at h1
        omega, by omega⟩
  obtain ⟨z, hz, k, rfl, g1, g2, g3⟩ := key
  exact ⟨k, by rw [ref07_Inner_l7_eq]; exact hz, g1, g2, g3⟩
theorem ref07_Inner_v {f : SFan} (ok : okC f.Curve) (x : Int) : ref07_Inner f x = some (prS f.Curve x) := by
  have h1 := ok.lo
  have h2 := ok.hi
  rw [ref07_Inner_eq]; unfold ref07_Inner_t prS
  rw [get_t (decide_eq_true ⟨Int.le_refl _, by omega⟩)]
  by_cases c1 : x ≤ (f.Curve.f 0).Flow
  · rw [get_t (decide_eq_true c1), get_t (decide_eq_true ⟨Int.le_refl _, by omega⟩), get_t (decide_eq_true ⟨Int.le_refl _, by omega⟩), press_first ok c1]; rfl
  rw [get_f (decide_eq_false c1), last_nat2 h1 (by omega), get_t (dix (by omega)), toNat_nat]
  by_cases c2 : x ≥ (f.Curve.f (f.Curve.n - 1)).Flow
  · rw [get_t (decide_eq_true c2), get_t (dix (by omega)), get_t (dix (by omega)), press_last ok c2]; rfl
  rw [get_f (decide_eq_false c2)]
  obtain ⟨k, e, k1, k2, k3⟩ := ref07_l7_v ok x f.Road f.Back f.Auxiliary (show (f.Curve.f 0).Flow < x by omega) (show x < (f.Curve.f (f.Curve.n - 1)).Flow by omega)
  rw [get_sum e]
  show DT.get (DT.ite _ _ _) = _
  rw [get_t (dix (by omega)), wr_next (by omega), get_t (dix k1), toNat_nat, toNat_nat]
  have ra := ok.rg k (by omega)
  have rb := ok.rg (k + 1) k1
  have dn := ok.dn (k + 1) (by omega) k1
  rw [show k + 1 - 1 = k by omega] at dn
  have fin : ∀ q r : Int, 0 ≤ q → q ≤ (pOf f.Curve k).2 - (pOf f.Curve (k + 1)).2 → 0 ≤ r → r < (pOf f.Curve (k + 1)).1 - (pOf f.Curve k).1 → ((pOf f.Curve k).2 - (pOf f.Curve (k + 1)).2) * (x - (pOf f.Curve k).1) = ((pOf f.Curve (k + 1)).1 - (pOf f.Curve k).1) * q + r → pressV (pOf f.Curve) f.Curve.n x = (if r > 0 then (pOf f.Curve k).2 - q - 1 else (pOf f.Curve k).2 - q, (pOf f.Curve k).2 - q) →
      (DT.bind (ref05_Floor (segUp (pOf f.Curve k) (pOf f.Curve (k + 1)) x) (wideV (pOf f.Curve k) (pOf f.Curve (k + 1)))) fun z793 => DT.bind (ref05_Ceil (segUp (pOf f.Curve k) (pOf f.Curve (k + 1)) x) (wideV (pOf f.Curve k) (pOf f.Curve (k + 1)))) fun z795 => DT.leaf (SSpan.mk (wr ((pOf f.Curve k).2 + z793)) (wr ((pOf f.Curve k).2 + z795)))).get = some (spS (pressV (pOf f.Curve) f.Curve.n x)) := by
    intro q r q0 q1 r0 rl eq hv
    obtain ⟨s1, s2⟩ := seg_ref ra rb k2 (by omega) dn.2 dn.1 q0 q1 r0 rl eq
    have hne : (wideV (pOf f.Curve k) (pOf f.Curve (k + 1)) != 0) = true := by
      unfold wideV
      rw [wr_ok (by omega) (by omega)]
      simp
      omega
    unfold ceilG floorG at s2
    unfold floorG at s1
    rw [hne] at s1 s2
    dsimp only at s1 s2
    rw [get_bind (ref05_Floor_v _ _ hne), get_bind (ref05_Ceil_v _ _ hne), Option.some.inj s1, Option.some.inj s2, hv]
    have g1 : wr ((pOf f.Curve k).2 + -q) = (pOf f.Curve k).2 - q := by rw [wr_ok (by omega) (by omega)]; omega
    rw [DT.get_leaf, g1]
    by_cases hr : r > 0
    · rw [if_pos hr, if_pos hr]
      have g2 : wr ((pOf f.Curve k).2 + (-q - 1)) = (pOf f.Curve k).2 - q - 1 := by rw [wr_ok (by omega) (by omega)]; omega
      rw [g2]; rfl
    · rw [if_neg hr, if_neg hr, g1]; rfl
  by_cases hx : x = (pOf f.Curve k).1
  · refine fin 0 0 (Int.le_refl _) (by omega) (Int.le_refl _) (by omega) (by rw [hx]; simp) ?_
    rw [hx, press_pt ok (by omega)]
    simp
  · have pl := place_mid ok (j := k) (x := x) k1 (by omega) (by omega)
    rcases press_at ok x with ⟨e3, _⟩ | ⟨e3, _⟩ | ⟨_, _, q, r, sg, hv⟩
    · omega
    · omega
    · rw [pl, show k + 1 - 1 = k by omega] at sg hv
      exact fin q r sg.q0 sg.lo sg.r0 sg.rl sg.eq hv
theorem ref07_Along_v {f : SFan} (ok : okC f.Curve) (back : Bool) (x : Int) : ref07_Along f back x = some (blowS f.Curve back x) := by
  rw [ref07_Along_eq]; unfold ref07_Along_t blowS
  cases back with
  | true => rw [get_t rfl, get_bind (ref07_Inner_v ok _), if_pos rfl]; rfl
  | false => rw [get_f rfl, get_bind (ref07_Inner_v ok _), if_neg (by simp)]; rfl
theorem ref07_State_v {f : SFan} (ok : okC f.Curve) (st x : Int) : ref07_State f st x = some (stS f st x) := by
  rw [ref07_State_eq]; unfold ref07_State_t stS
  by_cases c0 : st = 0
  · rw [get_t (by simp [c0]), if_pos c0]; rfl
  rw [get_f (by simp [c0]), if_neg c0]
  by_cases c1 : st = 1
  · rw [get_t (by simp [c1]), get_bind (ref07_Along_v ok _ _), if_pos c1]; rfl
  rw [get_f (by simp [c1]), if_neg c1]
  by_cases c2 : st = 2
  · rw [get_t (by simp [c2]), get_bind (ref07_Along_v ok _ _), if_pos c2]; rfl
  rw [get_f (by simp [c2]), if_neg c2, get_bind (ref07_Along_v ok _ _), get_bind (ref07_Along_v ok _ _), DT.get_leaf]
  cases f.Back with
  | true =>
    show some (SSpan.mk _ _) = some (SSpan.mk (minI (minI 0 (blowS f.Curve true x).Low) (blowS f.Curve false x).Low) (maxI (maxI 0 (blowS f.Curve true x).High) (blowS f.Curve false x).High))
    unfold minI maxI
    congr 2
    · repeat' split
      all_goals omega
    · repeat' split
      all_goals omega
  | false =>
    show some (SSpan.mk _ _) = some (SSpan.mk (minI (minI 0 (blowS f.Curve false x).Low) (blowS f.Curve true x).Low) (maxI (maxI 0 (blowS f.Curve false x).High) (blowS f.Curve true x).High))
    unfold minI maxI
    congr 2
    · repeat' split
      all_goals omega
    · repeat' split
      all_goals omega
end Go.Proofs.YtnoeblpanfbpjaaGreat.Ab
