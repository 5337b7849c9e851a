/- Stage 9, maths: what fans give, by the program and by the document. -/
import Derived.Test.YtmfiagdelnddkaaGreatXc
import Derived.Test.YtmfiagdelnddkaaGreatXm
namespace Go.Proofs.YtmfiagdelnddkaaGreat.Ab
open Go
structure OkP (p : Nat → Int × Int) (n : Nat) : Prop where
  lo : 1 ≤ n
  hi : n ≤ 8
  rg : ∀ i, i < n → -1048576 ≤ (p i).1 ∧ (p i).1 ≤ 1048576 ∧ 0 ≤ (p i).2 ∧ (p i).2 ≤ 2199023255552
  dn : ∀ i, 0 < i → i < n → (p (i - 1)).1 < (p i).1 ∧ (p i).2 ≤ (p (i - 1)).2
def idxFrom (p : Nat → Int × Int) (x : Int) : Nat → Nat → Int
  | 0, _ => -1
  | k + 1, i => if (p i).1 ≥ x then i else idxFrom p x k (i + 1)
theorem Hr (p : Nat → Int × Int) (x : Int) : ∀ k i, idxFrom p x k i = -1 ∨ ((i : Int) ≤ idxFrom p x k i ∧ idxFrom p x k i < i + k ∧ (p (idxFrom p x k i).toNat).1 ≥ x ∧ ∀ j : Nat, i ≤ j → (j : Int) < idxFrom p x k i → (p j).1 < x) := by
  intro k
  induction k with
  | zero => intro i; exact .inl rfl
  | succ k ih =>
    intro i
    unfold idxFrom
    split
    · rename_i h; exact .inr ⟨Int.le_refl _, by omega, h, fun j h1 h2 => by omega⟩
    · rename_i h
      rcases ih (i + 1) with h2 | ⟨h2, h3, h4, h5⟩
      · exact .inl h2
      · refine .inr ⟨by omega, by omega, h4, fun j h6 h7 => ?_⟩
        by_cases hj : j = i
        · subst hj; omega
        · exact h5 j (by omega) h7
theorem adk (p : Nat → Int × Int) (x : Int) : ∀ k i, idxFrom p x k i = -1 → ∀ j, i ≤ j → j < i + k → (p j).1 < x := by
  intro k
  induction k with
  | zero => intro i _ j h1 h2; omega
  | succ k ih =>
    intro i h j h1 h2
    unfold idxFrom at h
    split at h
    · omega
    · by_cases hj : j = i
      · subst hj; omega
      · exact ih (i + 1) h j (by omega) (by omega)
def aht (a b : Int × Int) (x : Int) : Int := wr (wr (a.2 - b.2) * wr (x - a.1))
def Po (a b : Int × Int) : Int := wr (b.1 - a.1)
def hiV (a b : Int × Int) (x : Int) : Int := wr (a.2 - wr ((aht a b x).tdiv (Po a b)))
def btwV (a b : Int × Int) (x : Int) : Int × Int := match decide ((aht a b x).tmod (Po a b) > 0) with
  | true => (wr (hiV a b x - 1), hiV a b x)
  | false => (hiV a b x, hiV a b x)
def vv (p : Nat → Int × Int) (n : Nat) (x : Int) : Int × Int :=
  if idxFrom p x n 0 = 0 then ((p 0).2, (p 0).2) else if idxFrom p x n 0 = -1 then ((p (n - 1)).2, (p (n - 1)).2) else btwV (p ((idxFrom p x n 0).toNat - 1)) (p (idxFrom p x n 0).toNat) x
def bD (p : Nat → Int × Int) (n : Nat) (x : Int) : Nat := if idxFrom p x n 0 = -1 then n else (idxFrom p x n 0).toNat
theorem N7 {p : Nat → Int × Int} {n : Nat} {x : Int} {j : Nat} (h : j < bD p n x) : (p j).1 < x := by
  unfold bD at h
  split at h
  · rename_i h0; exact adk p x n 0 h0 j (Nat.zero_le _) (by omega)
  · rename_i h0
    rcases Hr p x n 0 with h1 | ⟨_, _, _, h4⟩
    · exact absurd h1 h0
    · exact h4 j (Nat.zero_le _) (by omega)
theorem SH {p : Nat → Int × Int} {n : Nat} {x : Int} (h : bD p n x < n) : (p (bD p n x)).1 ≥ x := by
  unfold bD at h ⊢
  split
  · rename_i h0; rw [if_pos h0] at h; omega
  · rename_i h0
    rcases Hr p x n 0 with h1 | ⟨_, _, h3, _⟩
    · exact absurd h1 h0
    · exact h3
theorem XT (p : Nat → Int × Int) (n : Nat) (x : Int) : bD p n x ≤ n := by
  unfold bD
  split
  · omega
  · rename_i h0
    rcases Hr p x n 0 with h1 | ⟨_, h2, _, _⟩
    · exact absurd h1 h0
    · omega
theorem afY {p : Nat → Int × Int} {n : Nat} {x y : Int} (h : x ≤ y) : bD p n x ≤ bD p n y := by
  rcases Nat.lt_or_ge (bD p n y) (bD p n x) with h1 | h1
  · have h2 := N7 h1
    have h3 := SH (p := p) (n := n) (x := y) (by have := XT p n x; omega)
    omega
  · exact h1
structure Seg (a b : Int × Int) (x : Int) (q r : Int) : Prop where
  q0 : 0 ≤ q
  r0 : 0 ≤ r
  rl : r < b.1 - a.1
  eq : (a.2 - b.2) * (x - a.1) = (b.1 - a.1) * q + r
  val : btwV a b x = (if r > 0 then a.2 - q - 1 else a.2 - q, a.2 - q)
  lo : q ≤ a.2 - b.2
  lo2 : r > 0 → q + 1 ≤ a.2 - b.2
theorem akW {a b : Int × Int} {x : Int} (ha : -1048576 ≤ a.1 ∧ a.1 ≤ 1048576 ∧ 0 ≤ a.2 ∧ a.2 ≤ 2199023255552) (hb : -1048576 ≤ b.1 ∧ b.1 ≤ 1048576 ∧ 0 ≤ b.2 ∧ b.2 ≤ 2199023255552)
    (h1 : a.1 < x) (h2 : x ≤ b.1) (h3 : b.2 ≤ a.2) : ∃ q r, Seg a b x q r := by
  have hw : Po a b = b.1 - a.1 := by unfold Po wr; rw [IntKind.wrap_i64]; omega
  have hd : wr (a.2 - b.2) = a.2 - b.2 := by unfold wr; rw [IntKind.wrap_i64]; omega
  have ht : wr (x - a.1) = x - a.1 := by unfold wr; rw [IntKind.wrap_i64]; omega
  have l0 : 0 ≤ (a.2 - b.2) * (x - a.1) := Int.mul_nonneg (by omega) (by omega)
  have l1 : (a.2 - b.2) * (x - a.1) ≤ (a.2 - b.2) * (b.1 - a.1) := Int.mul_le_mul_of_nonneg_left (by omega) (by omega)
  have l2 : (a.2 - b.2) * (b.1 - a.1) ≤ 2199023255552 * 2097152 := Int.mul_le_mul (by omega) (by omega) (by omega) (by omega)
  have hl : aht a b x = (a.2 - b.2) * (x - a.1) := by
    unfold aht
    rw [hd, ht]
    unfold wr
    rw [IntKind.wrap_i64]
    generalize (a.2 - b.2) * (x - a.1) = l at l0 l1 ⊢
    omega
  have w0 : 0 < b.1 - a.1 := by omega
  generalize hlv : (a.2 - b.2) * (x - a.1) = l at l0 l1 hl
  have e1 : l.tdiv (b.1 - a.1) = l / (b.1 - a.1) := Int.tdiv_eq_ediv_of_nonneg l0
  have e2 : l.tmod (b.1 - a.1) = l % (b.1 - a.1) := Int.tmod_eq_emod_of_nonneg l0
  have q0 : 0 ≤ l / (b.1 - a.1) := Int.ediv_nonneg l0 (by omega)
  have r0 : 0 ≤ l % (b.1 - a.1) := Int.emod_nonneg l (by omega)
  have rl : l % (b.1 - a.1) < b.1 - a.1 := Int.emod_lt_of_pos l w0
  have de : (b.1 - a.1) * (l / (b.1 - a.1)) + l % (b.1 - a.1) = l := Int.mul_ediv_add_emod l (b.1 - a.1)
  have ql : l / (b.1 - a.1) ≤ a.2 - b.2 := Int.ediv_le_of_le_mul w0 (by rw [← hlv] at l1; rw [← hlv]; exact l1)
  have hi : hiV a b x = a.2 - l / (b.1 - a.1) := by
    unfold hiV
    rw [hl, hw, e1]
    unfold wr
    rw [IntKind.wrap_i64, IntKind.wrap_i64]
    omega
  refine ⟨l / (b.1 - a.1), l % (b.1 - a.1), ⟨q0, r0, rl, by rw [hlv, de], ?_, ql, fun hr => ?_⟩⟩
  · unfold btwV
    rw [hl, hw, e2, hi]
    by_cases hr : l % (b.1 - a.1) > 0
    · rw [if_pos hr, decide_eq_true hr]
      have : wr (a.2 - l / (b.1 - a.1) - 1) = a.2 - l / (b.1 - a.1) - 1 := by unfold wr; rw [IntKind.wrap_i64]; omega
      rw [this]
    · rw [if_neg hr, decide_eq_false hr]
  · rcases (show l / (b.1 - a.1) < a.2 - b.2 ∨ a.2 - b.2 ≤ l / (b.1 - a.1) by omega) with h | h
    · omega
    · have he : l / (b.1 - a.1) = a.2 - b.2 := by omega
      rw [he, Int.mul_comm] at de
      omega
theorem Bo {p : Nat → Int × Int} {n : Nat} (ok : OkP p n) (x : Int) :
    (bD p n x = 0 ∧ vv p n x = ((p 0).2, (p 0).2)) ∨ (bD p n x = n ∧ vv p n x = ((p (n - 1)).2, (p (n - 1)).2)) ∨
    (0 < bD p n x ∧ bD p n x < n ∧ ∃ q r, Seg (p (bD p n x - 1)) (p (bD p n x)) x q r ∧ vv p n x = (if r > 0 then (p (bD p n x - 1)).2 - q - 1 else (p (bD p n x - 1)).2 - q, (p (bD p n x - 1)).2 - q)) := by
  have h1 := ok.lo
  have hlt := @N7 p n x
  have hge := @SH p n x
  have hle := XT p n x
  have hP : bD p n x = if idxFrom p x n 0 = -1 then n else (idxFrom p x n 0).toNat := rfl
  have hV : vv p n x = if idxFrom p x n 0 = 0 then ((p 0).2, (p 0).2) else if idxFrom p x n 0 = -1 then ((p (n - 1)).2, (p (n - 1)).2) else btwV (p ((idxFrom p x n 0).toNat - 1)) (p (idxFrom p x n 0).toNat) x := rfl
  have hi := Hr p x n 0
  by_cases c1 : idxFrom p x n 0 = -1
  · rw [if_pos c1] at hP
    rw [if_neg (by omega), if_pos c1] at hV
    exact .inr (.inl ⟨hP, hV⟩)
  rw [if_neg c1] at hP
  rcases hi with hi | ⟨g1, g2, _, _⟩
  · exact absurd hi c1
  by_cases c0 : idxFrom p x n 0 = 0
  · rw [if_pos c0] at hV
    exact .inl ⟨by rw [hP, c0]; rfl, hV⟩
  rw [if_neg c0, if_neg c1, ← hP] at hV
  have hp : 0 < bD p n x ∧ bD p n x < n := by omega
  have dn := ok.dn _ hp.1 hp.2
  obtain ⟨q, r, sg⟩ := akW (ok.rg _ (show bD p n x - 1 < n by omega)) (ok.rg _ hp.2) (hlt (show bD p n x - 1 < bD p n x by omega)) (hge hp.2) dn.2
  exact .inr (.inr ⟨hp.1, hp.2, q, r, sg, by rw [hV, sg.val]⟩)
theorem akC {p : Nat → Int × Int} {n : Nat} (ok : OkP p n) : ∀ (d i : Nat), i + d < n → (p (i + d)).2 ≤ (p i).2 := by
  intro d
  induction d with
  | zero => intro i _; exact Int.le_refl _
  | succ d ih =>
    intro i h
    have h1 := ih i (by omega)
    have h2 := (ok.dn (i + (d + 1)) (by omega) h).2
    have e : i + (d + 1) - 1 = i + d := by omega
    rw [e] at h2
    omega
theorem XU {p : Nat → Int × Int} {n : Nat} (ok : OkP p n) (x : Int) : (vv p n x).1 ≤ (vv p n x).2 ∧ (vv p n x).2 ≤ (vv p n x).1 + 1 ∧ 0 ≤ (vv p n x).1 ∧ (vv p n x).2 ≤ 2199023255552 ∧
    (bD p n x < n → (p (bD p n x)).2 ≤ (vv p n x).1) ∧ (0 < bD p n x → (vv p n x).2 ≤ (p (bD p n x - 1)).2) := by
  have h1 := ok.lo
  have r0 := ok.rg 0 (by omega)
  have rn := ok.rg (n - 1) (by omega)
  rcases Bo ok x with ⟨e1, e2⟩ | ⟨e1, e2⟩ | ⟨g1, g2, q, r, sg, e2⟩
  · rw [e2, e1]; dsimp only
    exact ⟨by omega, by omega, by omega, by omega, fun _ => by omega, fun h => by omega⟩
  · rw [e2, e1]; dsimp only
    exact ⟨by omega, by omega, by omega, by omega, fun h => by omega, fun _ => by omega⟩
  · have ra := ok.rg (bD p n x - 1) (by omega)
    have rb := ok.rg (bD p n x) g2
    have l1 := sg.lo
    have l2 := sg.lo2
    have q0 := sg.q0
    rw [e2]
    dsimp only
    split
    · rename_i hr
      have := l2 hr
      exact ⟨by omega, by omega, by omega, by omega, fun _ => by omega, fun _ => by omega⟩
    · exact ⟨by omega, by omega, by omega, by omega, fun _ => by omega, fun _ => by omega⟩
theorem aaS {p : Nat → Int × Int} {n : Nat} (ok : OkP p n) {x y : Int} (h : x ≤ y) : (vv p n y).1 ≤ (vv p n x).1 ∧ (vv p n y).2 ≤ (vv p n x).2 := by
  have hm : bD p n x ≤ bD p n y := afY h
  have hy := XT p n y
  have ix := XU ok x
  have iy := XU ok y
  by_cases he : bD p n x = bD p n y
  · rcases Bo ok x with ⟨e1, e2⟩ | ⟨e1, e2⟩ | ⟨g1, g2, q, r, sg, e2⟩
    · rcases Bo ok y with ⟨e3, e4⟩ | ⟨e3, e4⟩ | ⟨g3, _⟩
      · rw [e2, e4]; exact ⟨Int.le_refl _, Int.le_refl _⟩
      · have := ok.lo; omega
      · omega
    · rcases Bo ok y with ⟨e3, e4⟩ | ⟨e3, e4⟩ | ⟨_, g3, _⟩
      · have := ok.lo; omega
      · rw [e2, e4]; exact ⟨Int.le_refl _, Int.le_refl _⟩
      · omega
    · rcases Bo ok y with ⟨e3, _⟩ | ⟨e3, _⟩ | ⟨_, _, q', r', sg', e4⟩
      · omega
      · omega
      · rw [← he] at sg' e4
        rw [e2, e4]
        dsimp only
        have w0 := sg.rl
        have k1 := sg.eq
        have k2 := sg'.eq
        have r1 := sg.r0
        have r2 := sg'.r0
        have r3 := sg'.rl
        have d0 := (ok.dn _ g1 g2).2
        have km : ((p (bD p n x - 1)).2 - (p (bD p n x)).2) * (x - (p (bD p n x - 1)).1) ≤ ((p (bD p n x - 1)).2 - (p (bD p n x)).2) * (y - (p (bD p n x - 1)).1) := Int.mul_le_mul_of_nonneg_left (by omega) (by omega)
        rw [k1, k2] at km
        have hq : q ≤ q' := by
          rcases (show q' < q ∨ q ≤ q' by omega) with hlt | hge
          · have hge' : q' + 1 ≤ q := by omega
            have := Int.mul_le_mul_of_nonneg_left hge' (show 0 ≤ (p (bD p n x)).1 - (p (bD p n x - 1)).1 by omega)
            rw [Int.mul_add, Int.mul_one] at this
            omega
          · exact hge
        have hqr : q = q' → r ≤ r' := fun e => by rw [e] at km; omega
        refine ⟨?_, by omega⟩
        by_cases e : q = q'
        · have := hqr e
          repeat' split
          all_goals omega
        · repeat' split
          all_goals omega
  · have hlt : bD p n x < bD p n y := by omega
    have a1 := ix.2.2.2.2.1 (by omega)
    have a2 := iy.2.2.2.2.2 (by omega)
    have a3 := akC ok (bD p n y - 1 - bD p n x) (bD p n x) (by omega)
    have e : bD p n x + (bD p n y - 1 - bD p n x) = bD p n y - 1 := by omega
    rw [e] at a3
    omega
theorem ajl {p : Nat → Int × Int} {n : Nat} (ok : OkP p n) : ∀ (d i : Nat), 0 < d → i + d < n → (p i).1 < (p (i + d)).1 := by
  intro d
  induction d with
  | zero => intro i h; omega
  | succ d ih =>
    intro i _ h
    have h2 := (ok.dn (i + (d + 1)) (by omega) h).1
    have e : i + (d + 1) - 1 = i + d := by omega
    rw [e] at h2
    by_cases hd : d = 0
    · subst hd; exact h2
    · have := ih i (by omega) (by omega)
      omega
theorem adw {p : Nat → Int × Int} {n : Nat} (ok : OkP p n) {j : Nat} {x : Int} (hj : j + 1 < n) (h1 : (p j).1 < x) (h2 : x ≤ (p (j + 1)).1) : bD p n x = j + 1 := by
  have hle := XT p n x
  rcases Nat.lt_trichotomy (bD p n x) (j + 1) with h | h | h
  · have g := SH (p := p) (n := n) (x := x) (by omega)
    by_cases e : bD p n x = j
    · rw [e] at g; omega
    · have := ajl ok (j - bD p n x) (bD p n x) (by omega) (by omega)
      rw [show bD p n x + (j - bD p n x) = j by omega] at this
      omega
  · exact h
  · have := N7 h
    omega
theorem aiL {p : Nat → Int × Int} {n : Nat} (ok : OkP p n) {j : Nat} (hj : j < n) : bD p n (p j).1 = j := by
  by_cases h0 : j = 0
  · subst h0
    rcases Nat.eq_zero_or_pos (bD p n (p 0).1) with h | h
    · exact h
    · have := N7 h; omega
  · have e := adw ok (j := j - 1) (x := (p j).1) (by omega) (ok.dn j (by omega) hj).1 (by rw [show j - 1 + 1 = j by omega]; exact Int.le_refl _)
    omega
theorem afn {p : Nat → Int × Int} {n : Nat} (ok : OkP p n) {j : Nat} (hj : j < n) : vv p n (p j).1 = ((p j).2, (p j).2) := by
  have e := aiL ok hj
  rcases Bo ok (p j).1 with ⟨e1, e2⟩ | ⟨e1, e2⟩ | ⟨g1, g2, q, r, sg, e2⟩
  · rw [e2, show j = 0 by omega]
  · omega
  · rw [e] at sg e2 g1
    rw [e2]
    have h1 := sg.eq
    have h2 := sg.rl
    have h3 := sg.r0
    have h4 := sg.lo
    have dn := ok.dn j g1 hj
    generalize (p (j - 1)).2 = a2, (p j).2 = b2, (p (j - 1)).1 = a1, (p j).1 = b1 at h1 h2 h3 h4 dn ⊢
    have hq : q = a2 - b2 := by
      rcases (show q < a2 - b2 ∨ q = a2 - b2 by omega) with hlt | he
      · have := Int.mul_le_mul_of_nonneg_left (show q + 1 ≤ a2 - b2 by omega) (show 0 ≤ b1 - a1 by omega)
        rw [Int.mul_add, Int.mul_one, Int.mul_comm (b1 - a1) (a2 - b2)] at this
        omega
      · exact he
    have hr : r = 0 := by
      rw [hq, Int.mul_comm] at h1
      omega
    rw [if_neg (by omega)]
    congr 1 <;> omega
def YF (a b : Int) : Int := match decide (a.tmod b < 0) with
  | true => wr (wr (a.tdiv b) - 1)
  | false => wr (a.tdiv b)
def adf (a b : Int) : Option Int := match b != 0 with
  | true => some (YF a b)
  | false => none
def ajI (a b : Int) : Option Int := match adf (wr (0 - a)) b with
  | some q => some (wr (0 - q))
  | none => none
def agh (a b : Int × Int) (x : Int) : Int := wr (wr (b.2 - a.2) * wr (x - a.1))
theorem ahd {l w q r : Int} (hw : 0 < w) (hl : l = w * q + r) (q0 : 0 ≤ q) (q1 : q ≤ 4398046511104) (r0 : 0 ≤ r) (rl : r < w) : YF (-l) w = (if r > 0 then -q - 1 else -q) ∧ YF l w = q := by
  have l0 : 0 ≤ l := by
    have := Int.mul_nonneg (show 0 ≤ w by omega) q0
    omega
  have u : l / w = q ∧ l % w = r := (Int.ediv_emod_unique hw).2 ⟨by omega, r0, rl⟩
  have e1 : l.tdiv w = q := by rw [Int.tdiv_eq_ediv_of_nonneg l0]; exact u.1
  have e2 : l.tmod w = r := by rw [Int.tmod_eq_emod_of_nonneg l0]; exact u.2
  unfold YF
  rw [Int.neg_tdiv, Int.neg_tmod, e1, e2]
  have w1 : wr (-q) = -q := by unfold wr; rw [IntKind.wrap_i64]; omega
  have w2 : wr (-q - 1) = -q - 1 := by unfold wr; rw [IntKind.wrap_i64]; omega
  have w3 : wr q = q := by unfold wr; rw [IntKind.wrap_i64]; omega
  refine ⟨?_, kf (decide_eq_false (by omega)) w3⟩
  by_cases hr : r > 0
  · rw [if_pos hr]
    exact kt (decide_eq_true (by omega)) (by rw [w1, w2])
  · rw [if_neg hr]
    exact kf (decide_eq_false (by omega)) w1
theorem le_last {p : Nat → Int × Int} {n : Nat} (ok : OkP p n) {j : Nat} (hj : j < n) : (p j).1 ≤ (p (n - 1)).1 := by
  by_cases h : j = n - 1
  · rw [h]; exact Int.le_refl _
  · have := ajl ok (n - 1 - j) j (by omega) (by omega)
    rw [show j + (n - 1 - j) = n - 1 by omega] at this
    omega
theorem aeK {p : Nat → Int × Int} {n : Nat} (ok : OkP p n) {x : Int} (h : x ≤ (p 0).1) : vv p n x = ((p 0).2, (p 0).2) := by
  have h1 := ok.lo
  rcases Bo ok x with ⟨_, e2⟩ | ⟨e1, _⟩ | ⟨g1, _⟩
  · exact e2
  · have := N7 (p := p) (n := n) (x := x) (j := 0) (by omega); omega
  · have := N7 (p := p) (n := n) (x := x) (j := 0) (by omega); omega
theorem afZ {p : Nat → Int × Int} {n : Nat} (ok : OkP p n) {x : Int} (h : (p (n - 1)).1 ≤ x) : vv p n x = ((p (n - 1)).2, (p (n - 1)).2) := by
  have h1 := ok.lo
  by_cases e : x = (p (n - 1)).1
  · rw [e]; exact afn ok (by omega)
  · rcases Bo ok x with ⟨e1, _⟩ | ⟨_, e2⟩ | ⟨_, g2, _⟩
    · have := SH (p := p) (n := n) (x := x) (by omega)
      rw [e1] at this
      have := le_last ok (show 0 < n by omega)
      omega
    · exact e2
    · have := SH (p := p) (n := n) (x := x) g2
      have := le_last ok g2
      omega
theorem akb {a b : Int × Int} {x q r : Int} (ha : -1048576 ≤ a.1 ∧ a.1 ≤ 1048576 ∧ 0 ≤ a.2 ∧ a.2 ≤ 2199023255552) (hb : -1048576 ≤ b.1 ∧ b.1 ≤ 1048576 ∧ 0 ≤ b.2 ∧ b.2 ≤ 2199023255552)
    (h1 : a.1 ≤ x) (h2 : x ≤ b.1) (h3 : b.2 ≤ a.2) (hw : a.1 < b.1) (q0 : 0 ≤ q) (q1 : q ≤ a.2 - b.2) (r0 : 0 ≤ r) (rl : r < b.1 - a.1) (eq : (a.2 - b.2) * (x - a.1) = (b.1 - a.1) * q + r) :
    adf (agh a b x) (Po a b) = some (if r > 0 then -q - 1 else -q) ∧ ajI (agh a b x) (Po a b) = some (-q) := by
  have hwd : Po a b = b.1 - a.1 := by unfold Po wr; rw [IntKind.wrap_i64]; omega
  have hd : wr (b.2 - a.2) = b.2 - a.2 := by unfold wr; rw [IntKind.wrap_i64]; omega
  have ht : wr (x - a.1) = x - a.1 := by unfold wr; rw [IntKind.wrap_i64]; omega
  have l0 : 0 ≤ (a.2 - b.2) * (x - a.1) := Int.mul_nonneg (by omega) (by omega)
  have l1 : (a.2 - b.2) * (x - a.1) ≤ 2199023255552 * 2097152 := Int.mul_le_mul (by omega) (by omega) (by omega) (by omega)
  have hu : agh a b x = -((a.2 - b.2) * (x - a.1)) := by
    unfold agh
    rw [hd, ht, show b.2 - a.2 = -(a.2 - b.2) by omega, Int.neg_mul]
    unfold wr
    rw [IntKind.wrap_i64]
    generalize (a.2 - b.2) * (x - a.1) = l at l0 l1 ⊢
    omega
  rw [hu, hwd]
  generalize (a.2 - b.2) * (x - a.1) = l at l0 l1 eq ⊢
  have fs := ahd (l := l) (w := b.1 - a.1) (q := q) (r := r) (by omega) eq q0 (by omega) r0 rl
  have hn : wr (0 - -l) = l := by unfold wr; rw [IntKind.wrap_i64]; omega
  have hq : wr (0 - q) = -q := by unfold wr; rw [IntKind.wrap_i64]; omega
  have hne : (b.1 - a.1 != 0) = true := by simp; omega
  unfold ajI adf
  rw [hne, hn, fs.1, fs.2]
  dsimp only
  rw [hq]
  exact ⟨rfl, rfl⟩
def pOf (c : Sq aM) (i : Nat) : Int × Int := ((c.f i).Flow, (c.f i).Pressure)
def spS (s : Int × Int) : aK := ⟨s.1, s.2⟩
def okC (c : Sq aM) : Prop := OkP (pOf c) c.n
theorem Hf {f : SFan} (h : fanE f = 0) : okC f.Curve := by
  unfold fanE at h
  by_cases h0 : f.Road < 0
  · rw [if_pos h0] at h; cases h
  rw [if_neg h0] at h
  by_cases h1 : f.Curve.n = 0
  · rw [if_pos h1] at h; cases h
  rw [if_neg h1] at h
  by_cases h2 : f.Curve.n > 8
  · rw [if_pos h2] at h; cases h
  rw [if_neg h2] at h
  have hne : ∀ i z, gC f.Curve i = some z → z ≠ 0 := by
    intro i z h
    unfold gC at h
    split at h
    · injection h with h; omega
    · split at h
      · injection h with h; omega
      · split at h
        · injection h with h; omega
        · cases h
  have hn := NW hne h
  have all : ∀ i, i < f.Curve.n → (-1048576 ≤ (f.Curve.f i).Flow ∧ (f.Curve.f i).Flow ≤ 1048576) ∧ (0 ≤ (f.Curve.f i).Pressure ∧ (f.Curve.f i).Pressure ≤ 2199023255552) ∧ (0 < i → (f.Curve.f (i - 1)).Flow < (f.Curve.f i).Flow ∧ (f.Curve.f i).Pressure ≤ (f.Curve.f (i - 1)).Pressure) := by
    intro i hi
    have := jf hn i (by omega) (by omega)
    unfold gC at this
    by_cases a1 : -1048576 ≤ (f.Curve.f i).Flow ∧ (f.Curve.f i).Flow ≤ 1048576
    · rw [if_neg (not_not_intro a1)] at this
      by_cases a2 : 0 ≤ (f.Curve.f i).Pressure ∧ (f.Curve.f i).Pressure ≤ 2199023255552
      · rw [if_neg (not_not_intro a2)] at this
        refine ⟨a1, a2, fun h0 => ?_⟩
        split at this
        · cases this
        · rename_i h3
          exact Classical.not_not.1 fun h4 => h3 ⟨h0, h4⟩
      · rw [if_pos a2] at this; cases this
    · rw [if_pos a1] at this; cases this
  exact ⟨by omega, by omega, fun i hi => ⟨(all i hi).1.1, (all i hi).1.2, (all i hi).2.1.1, (all i hi).2.1.2⟩, fun i h0 hi => (all i hi).2.2 h0⟩
def gIdx (c : Sq aM) (x : Int) (i : Nat) : Option Int := if (c.f i).Flow ≥ x then some (i : Int) else none
theorem ajQ (c : Sq aM) (x : Int) : ∀ k i, (match aR (gIdx c x) k i with | some z => z | none => -1) = idxFrom (pOf c) x k i := by
  intro k
  induction k with
  | zero => intro i; rfl
  | succ k ih =>
    intro i
    unfold aR idxFrom gIdx
    by_cases h : (c.f i).Flow ≥ x
    · rw [if_pos h, if_pos (show (pOf c i).1 ≥ x from h)]
    · rw [if_neg h, if_neg (show ¬ (pOf c i).1 ≥ x from h)]; exact ih (i + 1)
theorem Ig (c : Sq aM) (x : Int) (h : c.n ≤ 8) : uR c x = some (idxFrom (pOf c) x c.n 0) := by
  rw [GA]; unfold qZ
  have e : qx c x 0 = some (sumO (aR (gIdx c x) c.n 0)) := by
    rw [CV, ← jV]
    refine aX (step := fun v => dw c x v) (gIdx c x) (fun i hi => ?_) ?_ c.n 0 (Nat.zero_add _)
    · unfold dw gIdx
      have e1 : ∀ p, F5 p x = some (decide (p.Flow ≥ x)) := fun p => by rw [UN]; rfl
      rw [aA (dlt hi), aA (dix hi), aQ (by omega), aF, get_bind (e1 _)]
      by_cases a : (c.f i).Flow ≥ x
      · rw [aA (decide_eq_true a), if_pos a]; rfl
      · rw [aD (decide_eq_false a), if_neg a]; rfl
    · unfold dw
      rw [aD (dge (Nat.le_refl _))]
      rfl
  rw [aI e, ← ajQ]
  cases aR (gIdx c x) c.n 0 <;> rfl
theorem I9 (n : Int) : DJ n = some ⟨n, n⟩ := by rw [ZQ]; rfl
theorem abx (a b : aM) (x : Int) (h : (Po (a.Flow, a.Pressure) (b.Flow, b.Pressure) != 0) = true) : QL a b x = some (spS (btwV (a.Flow, a.Pressure) (b.Flow, b.Pressure) x)) := by
  rw [ZO]; unfold I7
  have h : (wr (b.Flow - a.Flow) != 0) = true := h
  rw [aA h, get_bind (I9 _), aA h]
  unfold btwV
  by_cases q : (aht (a.Flow, a.Pressure) (b.Flow, b.Pressure) x).tmod (Po (a.Flow, a.Pressure) (b.Flow, b.Pressure)) > 0
  · rw [decide_eq_true q]; exact aA (decide_eq_true q)
  · rw [decide_eq_false q]; exact aD (decide_eq_false q)
def prS (c : Sq aM) (x : Int) : aK := spS (vv (pOf c) c.n x)
theorem PD {c : Sq aM} (ok : okC c) (x : Int) : Fj c x = some (prS c x) := by
  have h1 := ok.lo
  have h2 := ok.hi
  rw [YC]; unfold F6 prS vv
  rw [get_bind (Ig c x h2)]
  have hi := Hr (pOf c) x c.n 0
  generalize idxFrom (pOf c) x c.n 0 = i at hi ⊢
  by_cases c0 : i = 0
  · rw [if_pos c0, aA (by simp [c0]), aA (decide_eq_true ⟨Int.le_refl _, by omega⟩), get_bind (I9 _)]; rfl
  rw [if_neg c0, aD (by simp [c0])]
  by_cases c1 : i = -1
  · rw [if_pos c1, aA (by simp [c1]), YK (by omega) (by omega), aA (dix (by omega)), aF, get_bind (I9 _)]; rfl
  rw [if_neg c1, aD (by simp [c1])]
  rcases hi with hi | ⟨g1, g2, _, _⟩
  · exact absurd hi c1
  have e : wr (i - 1) = ((i.toNat - 1 : Nat) : Int) := by rw [aO (by omega) (by omega)]; omega
  have hd := ok.dn i.toNat (by omega) (by omega)
  have hr1 := ok.rg i.toNat (by omega)
  have hr0 := ok.rg (i.toNat - 1) (by omega)
  have hw : (Po (pOf c (i.toNat - 1)) (pOf c i.toNat) != 0) = true := by
    unfold Po
    rw [aO (by omega) (by omega)]
    simp
    omega
  rw [e, aA (dix (by omega)), aA (decide_eq_true ⟨by omega, by omega⟩), aF, get_bind (abx _ _ _ hw)]
  rfl
def agt (s : aK) : aK := ⟨wr (0 - s.High), wr (0 - s.Low)⟩
def mH (c : Sq aM) (back : Bool) (x : Int) : aK := if back = true then agt (prS c (wr (0 - x))) else prS c x
theorem CG {c : Sq aM} (ok : okC c) (back : Bool) (x : Int) : AU c back x = some (mH c back x) := by
  rw [ZP]; unfold I8 mH
  cases back with
  | true => rw [aD (b := !true) rfl, get_bind (PD ok _), if_pos rfl]; rfl
  | false => rw [aA (b := !false) rfl, get_bind (PD ok _), if_neg (by simp)]; rfl
def minI (a b : Int) : Int := if b < a then b else a
def maxI (a b : Int) : Int := if a < b then b else a
def stS (f : SFan) (st x : Int) : aK :=
  if st = 0 then ⟨0, 0⟩ else if st = 1 then mH f.Curve f.Back x else if st = 2 then mH f.Curve (!f.Back) x
  else ⟨minI (minI 0 (mH f.Curve f.Back x).Low) (mH f.Curve (!f.Back) x).Low, maxI (maxI 0 (mH f.Curve f.Back x).High) (mH f.Curve (!f.Back) x).High⟩
theorem ais {f : SFan} (h : fanE f = 0) {st : Int} (hs : -1 ≤ st ∧ st ≤ 2) (x : Int) (hx : -1048577 ≤ x ∧ x ≤ 1048577) : ag6 f st x = some (stS f st x) := by
  have ok := Hf h
  rw [ag7]; unfold abw stS
  rw [get_bind (Yw f), aD (by simp [h]), get_bind (Mh _ _ _), aD (by simp only [decide_eq_true hx, Bool.not_true])]
  by_cases c1 : st = 1
  · rw [aA (by simp [c1]), get_bind (CG ok _ _), if_neg (show ¬ st = 0 by omega), if_pos c1]; rfl
  rw [aD (by simp [c1])]
  by_cases c2 : st = 2
  · rw [aA (by simp [c2]), get_bind (CG ok _ _), if_neg (show ¬ st = 0 by omega), if_neg c1, if_pos c2]; rfl
  rw [aD (by simp [c2])]
  by_cases c3 : st = -1
  · rw [aA (by simp [c3]), get_bind (CG ok _ _), get_bind (CG ok _ _), if_neg (show ¬ st = 0 by omega), if_neg c1, if_neg c2]; rfl
  · rw [aD (by simp [c3]), if_pos (show st = 0 by omega)]; rfl
theorem Tf (a b : Int) (h : (b != 0) = true) : DX a b = some (YF a b) := by
  rw [aae]; unfold Jw YF
  rw [aA h, aA h]
  by_cases q : a.tmod b < 0
  · rw [aA (decide_eq_true q), decide_eq_true q]; rfl
  · rw [aD (decide_eq_false q), decide_eq_false q]; rfl
theorem adE (a b : Int) (h : (b != 0) = true) : Od a b = some (wr (0 - YF (wr (0 - a)) b)) := by
  rw [ab0]; unfold MS
  rw [get_bind (Tf _ _ h)]; rfl
theorem af0 {c : Sq aM} (ok : okC c) (x a : Int) (b d : Bool) (h0 : (pOf c 0).1 < x) (h1 : x < (pOf c (c.n - 1)).1) :
    ∃ k : Nat, Gh x a b d c 0 = some (.inl (k : Int)) ∧ k + 1 < c.n ∧ (pOf c k).1 ≤ x ∧ x < (pOf c (k + 1)).1 := by
  have l1 := ok.lo
  have l2 := ok.hi
  have key := bH (step := fun v => sQ x a b d c v) (fun v => ∃ k : Nat, v = k ∧ k + 1 < c.n ∧ (pOf c k).1 ≤ x) (fun v => c.n - v.toNat)
    (fun z => ∃ k : Nat, z = .inl (k : Int) ∧ k + 1 < c.n ∧ (pOf c k).1 ≤ x ∧ x < (pOf c (k + 1)).1) (fun v hv => by
      obtain ⟨k, rfl, hk, hx⟩ := hv
      unfold sQ
      rw [aQ (by omega), aA (dix hk), aF]
      by_cases q : (c.f (k + 1)).Flow ≤ x
      · rw [aA (decide_eq_true q)]
        refine ⟨_, rfl, ⟨k + 1, rfl, ?_, q⟩, by omega⟩
        rcases Nat.lt_or_ge (k + 1 + 1) c.n with h | h
        · exact h
        · have e : c.n - 1 = k + 1 := by omega
          rw [e] at h1
          have : (pOf c (k + 1)).1 = (c.f (k + 1)).Flow := rfl
          omega
      · rw [aD (decide_eq_false q)]
        exact ⟨_, rfl, k, rfl, hk, hx, by show x < (c.f (k + 1)).Flow; omega⟩)
    0 ⟨0, rfl, by
      rcases Nat.lt_or_ge (0 + 1) c.n with h | h
      · exact h
      · have e : c.n - 1 = 0 := by omega
        rw [e] at h1
        omega, by omega⟩
  obtain ⟨z, hz, k, rfl, g1, g2, g3⟩ := key
  exact ⟨k, by rw [Ve]; exact hz, g1, g2, g3⟩
theorem Tg {f : SFan} (ok : okC f.Curve) (x : Int) : JA f x = some (prS f.Curve x) := by
  have h1 := ok.lo
  have h2 := ok.hi
  rw [aah]; unfold JB prS
  rw [aA (decide_eq_true ⟨Int.le_refl _, by omega⟩)]
  by_cases c1 : x ≤ (f.Curve.f 0).Flow
  · rw [aA (decide_eq_true c1), aA (decide_eq_true ⟨Int.le_refl _, by omega⟩), aA (decide_eq_true ⟨Int.le_refl _, by omega⟩), aeK ok c1]; rfl
  rw [aD (decide_eq_false c1), YK h1 (by omega), aA (dix (by omega)), aF]
  by_cases c2 : x ≥ (f.Curve.f (f.Curve.n - 1)).Flow
  · rw [aA (decide_eq_true c2), aA (dix (by omega)), aA (dix (by omega)), afZ ok c2]; rfl
  rw [aD (decide_eq_false c2)]
  obtain ⟨k, e, k1, k2, k3⟩ := af0 ok x f.Road f.Back f.Auxiliary (show (f.Curve.f 0).Flow < x by omega) (show x < (f.Curve.f (f.Curve.n - 1)).Flow by omega)
  rw [aI e]
  show DT.get (DT.ite _ _ _) = _
  rw [aA (dix (by omega)), aQ (by omega), aA (dix k1), aF, aF]
  have ra := ok.rg k (by omega)
  have rb := ok.rg (k + 1) k1
  have dn := ok.dn (k + 1) (by omega) k1
  rw [show k + 1 - 1 = k by omega] at dn
  have fin : ∀ q r : Int, 0 ≤ q → q ≤ (pOf f.Curve k).2 - (pOf f.Curve (k + 1)).2 → 0 ≤ r → r < (pOf f.Curve (k + 1)).1 - (pOf f.Curve k).1 → ((pOf f.Curve k).2 - (pOf f.Curve (k + 1)).2) * (x - (pOf f.Curve k).1) = ((pOf f.Curve (k + 1)).1 - (pOf f.Curve k).1) * q + r → vv (pOf f.Curve) f.Curve.n x = (if r > 0 then (pOf f.Curve k).2 - q - 1 else (pOf f.Curve k).2 - q, (pOf f.Curve k).2 - q) →
      (DT.bind (DX (agh (pOf f.Curve k) (pOf f.Curve (k + 1)) x) (Po (pOf f.Curve k) (pOf f.Curve (k + 1)))) fun z793 => DT.bind (Od (agh (pOf f.Curve k) (pOf f.Curve (k + 1)) x) (Po (pOf f.Curve k) (pOf f.Curve (k + 1)))) fun z795 => DT.leaf (aK.mk (wr ((pOf f.Curve k).2 + z793)) (wr ((pOf f.Curve k).2 + z795)))).get = some (spS (vv (pOf f.Curve) f.Curve.n x)) := by
    intro q r q0 q1 r0 rl eq hv
    obtain ⟨s1, s2⟩ := akb ra rb k2 (by omega) dn.2 dn.1 q0 q1 r0 rl eq
    have hne : (Po (pOf f.Curve k) (pOf f.Curve (k + 1)) != 0) = true := by
      unfold Po
      rw [aO (by omega) (by omega)]
      simp
      omega
    unfold ajI adf at s2
    unfold adf at s1
    rw [hne] at s1 s2
    dsimp only at s1 s2
    rw [get_bind (Tf _ _ hne), get_bind (adE _ _ hne), Option.some.inj s1, Option.some.inj s2, hv]
    have g1 : wr ((pOf f.Curve k).2 + -q) = (pOf f.Curve k).2 - q := by rw [aO (by omega) (by omega)]; omega
    rw [DT.get_leaf, g1]
    by_cases hr : r > 0
    · rw [if_pos hr, if_pos hr]
      have g2 : wr ((pOf f.Curve k).2 + (-q - 1)) = (pOf f.Curve k).2 - q - 1 := by rw [aO (by omega) (by omega)]; omega
      rw [g2]; rfl
    · rw [if_neg hr, if_neg hr, g1]; rfl
  by_cases hx : x = (pOf f.Curve k).1
  · refine fin 0 0 (Int.le_refl _) (by omega) (Int.le_refl _) (by omega) (by rw [hx]; simp) ?_
    rw [hx, afn ok (by omega)]
    simp
  · have pl := adw ok (j := k) (x := x) k1 (by omega) (by omega)
    rcases Bo ok x with ⟨e3, _⟩ | ⟨e3, _⟩ | ⟨_, _, q, r, sg, hv⟩
    · omega
    · omega
    · rw [pl, show k + 1 - 1 = k by omega] at sg hv
      exact fin q r sg.q0 sg.lo sg.r0 sg.rl sg.eq hv
theorem CO {f : SFan} (ok : okC f.Curve) (back : Bool) (x : Int) : A9 f back x = some (mH f.Curve back x) := by
  rw [aaf]; unfold Jy mH
  cases back with
  | true => rw [aA rfl, get_bind (Tg ok _), if_pos rfl]; rfl
  | false => rw [aD rfl, get_bind (Tg ok _), if_neg (by simp)]; rfl
theorem Ti {f : SFan} (ok : okC f.Curve) (st x : Int) : JC f st x = some (stS f st x) := by
  rw [aai]; unfold JE stS
  by_cases c0 : st = 0
  · rw [aA (by simp [c0]), if_pos c0]; rfl
  rw [aD (by simp [c0]), if_neg c0]
  by_cases c1 : st = 1
  · rw [aA (by simp [c1]), get_bind (CO ok _ _), if_pos c1]; rfl
  rw [aD (by simp [c1]), if_neg c1]
  by_cases c2 : st = 2
  · rw [aA (by simp [c2]), get_bind (CO ok _ _), if_pos c2]; rfl
  rw [aD (by simp [c2]), if_neg c2, get_bind (CO ok _ _), get_bind (CO ok _ _), DT.get_leaf]
  cases f.Back with
  | true =>
    show some (aK.mk _ _) = some (aK.mk (minI (minI 0 (mH f.Curve true x).Low) (mH f.Curve false x).Low) (maxI (maxI 0 (mH f.Curve true x).High) (mH f.Curve false x).High))
    unfold minI maxI
    congr 2
    · repeat' split
      all_goals omega
    · repeat' split
      all_goals omega
  | false =>
    show some (aK.mk _ _) = some (aK.mk (minI (minI 0 (mH f.Curve false x).Low) (mH f.Curve true x).Low) (maxI (maxI 0 (mH f.Curve false x).High) (mH f.Curve true x).High))
    unfold minI maxI
    congr 2
    · repeat' split
      all_goals omega
    · repeat' split
      all_goals omega
end Go.Proofs.YtmfiagdelnddkaaGreat.Ab
