/- A part of the proof, what is needed of it. -/
import Derived.Test.YtimkpfnbkclclaaGreatPl08
import Derived.Test.YtimkpfnbkclclaaGreatPl09
namespace Go.Proofs.YtimkpfnbkclclaaGreat.Ab
open Go
structure OkP (p : Nat → Int × Int) (n : Nat) : Prop where
  lo : 1 ≤ n
  hi : n ≤ 8
  rg : ∀ i, i < n → -1048576 ≤ (p i).1 ∧ (p i).1 ≤ 1048576 ∧ 0 ≤ (p i).2 ∧ (p i).2 ≤ 2199023255552
  dn : ∀ i, 0 < i → i < n → (p (i - 1)).1 < (p i).1 ∧ (p i).2 ≤ (p (i - 1)).2
def idxFrom (p : Nat → Int × Int) (x : Int) : Nat → Nat → Int
  | 0, _ => -1
  | k + 1, i => if (p i).1 ≥ x then i else idxFrom p x k (i + 1)
theorem ajB (p : Nat → Int × Int) (x : Int) : ∀ k i, idxFrom p x k i = -1 ∨ ((i : Int) ≤ idxFrom p x k i ∧ idxFrom p x k i < i + k ∧ (p (idxFrom p x k i).toNat).1 ≥ x ∧ ∀ j : Nat, i ≤ j → (j : Int) < idxFrom p x k i → (p j).1 < x) := by
  intro k
  induction k with
  | zero => intro i; exact .inl rfl
  | succ k ih =>
    intro i
    unfold idxFrom
    split
    · rename_i h; exact .inr ⟨Int.le_refl _, by omega, h, fun j h1 h2 => by omega⟩
    · rename_i h
      rcases ih (i + 1) with h2 | ⟨h2, h3, h4, h5⟩
      · exact .inl h2
      · refine .inr ⟨by omega, by omega, h4, fun j h6 h7 => ?_⟩
        by_cases hj : j = i
        · subst hj; omega
        · exact h5 j (by omega) h7
theorem ams (p : Nat → Int × Int) (x : Int) : ∀ k i, idxFrom p x k i = -1 → ∀ j, i ≤ j → j < i + k → (p j).1 < x := by
  intro k
  induction k with
  | zero => intro i _ j h1 h2; omega
  | succ k ih =>
    intro i h j h1 h2
    unfold idxFrom at h
    split at h
    · omega
    · by_cases hj : j = i
      · subst hj; omega
      · exact ih (i + 1) h j (by omega) (by omega)
def aob (a b : Int × Int) (x : Int) : Int := wr (wr (a.2 - b.2) * wr (x - a.1))
def aj8 (a b : Int × Int) : Int := wr (b.1 - a.1)
def hiV (a b : Int × Int) (x : Int) : Int := wr (a.2 - wr ((aob a b x).tdiv (aj8 a b)))
def btwV (a b : Int × Int) (x : Int) : Int × Int := match decide ((aob a b x).tmod (aj8 a b) > 0) with
  | true => (wr (hiV a b x - 1), hiV a b x)
  | false => (hiV a b x, hiV a b x)
def ai7 (p : Nat → Int × Int) (n : Nat) (x : Int) : Int × Int :=
  if idxFrom p x n 0 = 0 then ((p 0).2, (p 0).2) else if idxFrom p x n 0 = -1 then ((p (n - 1)).2, (p (n - 1)).2) else btwV (p ((idxFrom p x n 0).toNat - 1)) (p (idxFrom p x n 0).toNat) x
def aiQ (p : Nat → Int × Int) (n : Nat) (x : Int) : Nat := if idxFrom p x n 0 = -1 then n else (idxFrom p x n 0).toNat
theorem aj4 {p : Nat → Int × Int} {n : Nat} {x : Int} {j : Nat} (h : j < aiQ p n x) : (p j).1 < x := by
  unfold aiQ at h
  split at h
  · rename_i h0; exact ams p x n 0 h0 j (Nat.zero_le _) (by omega)
  · rename_i h0
    rcases ajB p x n 0 with h1 | ⟨_, _, _, h4⟩
    · exact absurd h1 h0
    · exact h4 j (Nat.zero_le _) (by omega)
theorem aku {p : Nat → Int × Int} {n : Nat} {x : Int} (h : aiQ p n x < n) : (p (aiQ p n x)).1 ≥ x := by
  unfold aiQ at h ⊢
  split
  · rename_i h0; rw [if_pos h0] at h; omega
  · rename_i h0
    rcases ajB p x n 0 with h1 | ⟨_, _, h3, _⟩
    · exact absurd h1 h0
    · exact h3
theorem ald (p : Nat → Int × Int) (n : Nat) (x : Int) : aiQ p n x ≤ n := by
  unfold aiQ
  split
  · omega
  · rename_i h0
    rcases ajB p x n 0 with h1 | ⟨_, h2, _, _⟩
    · exact absurd h1 h0
    · omega
theorem anC {p : Nat → Int × Int} {n : Nat} {x y : Int} (h : x ≤ y) : aiQ p n x ≤ aiQ p n y := by
  rcases Nat.lt_or_ge (aiQ p n y) (aiQ p n x) with h1 | h1
  · have h2 := aj4 h1
    have h3 := aku (p := p) (n := n) (x := y) (by have := ald p n x; omega)
    omega
  · exact h1
structure Seg (a b : Int × Int) (x : Int) (q r : Int) : Prop where
  q0 : 0 ≤ q
  r0 : 0 ≤ r
  rl : r < b.1 - a.1
  eq : (a.2 - b.2) * (x - a.1) = (b.1 - a.1) * q + r
  val : btwV a b x = (if r > 0 then a.2 - q - 1 else a.2 - q, a.2 - q)
  lo : q ≤ a.2 - b.2
  lo2 : r > 0 → q + 1 ≤ a.2 - b.2
theorem apU {a b : Int × Int} {x : Int} (ha : -1048576 ≤ a.1 ∧ a.1 ≤ 1048576 ∧ 0 ≤ a.2 ∧ a.2 ≤ 2199023255552) (hb : -1048576 ≤ b.1 ∧ b.1 ≤ 1048576 ∧ 0 ≤ b.2 ∧ b.2 ≤ 2199023255552)
    (h1 : a.1 < x) (h2 : x ≤ b.1) (h3 : b.2 ≤ a.2) : ∃ q r, Seg a b x q r := by
  have hw : aj8 a b = b.1 - a.1 := by unfold aj8 wr; rw [IntKind.wrap_i64]; omega
  have hd : wr (a.2 - b.2) = a.2 - b.2 := by unfold wr; rw [IntKind.wrap_i64]; omega
  have ht : wr (x - a.1) = x - a.1 := by unfold wr; rw [IntKind.wrap_i64]; omega
  have l0 : 0 ≤ (a.2 - b.2) * (x - a.1) := Int.mul_nonneg (by omega) (by omega)
  have l1 : (a.2 - b.2) * (x - a.1) ≤ (a.2 - b.2) * (b.1 - a.1) := Int.mul_le_mul_of_nonneg_left (by omega) (by omega)
  have l2 : (a.2 - b.2) * (b.1 - a.1) ≤ 2199023255552 * 2097152 := Int.mul_le_mul (by omega) (by omega) (by omega) (by omega)
  have hl : aob a b x = (a.2 - b.2) * (x - a.1) := by
    unfold aob
    rw [hd, ht]
    unfold wr
    rw [IntKind.wrap_i64]
    generalize (a.2 - b.2) * (x - a.1) = l at l0 l1 ⊢
    omega
  have w0 : 0 < b.1 - a.1 := by omega
  generalize hlv : (a.2 - b.2) * (x - a.1) = l at l0 l1 hl
  have e1 : l.tdiv (b.1 - a.1) = l / (b.1 - a.1) := Int.tdiv_eq_ediv_of_nonneg l0
  have e2 : l.tmod (b.1 - a.1) = l % (b.1 - a.1) := Int.tmod_eq_emod_of_nonneg l0
  have q0 : 0 ≤ l / (b.1 - a.1) := Int.ediv_nonneg l0 (by omega)
  have r0 : 0 ≤ l % (b.1 - a.1) := Int.emod_nonneg l (by omega)
  have rl : l % (b.1 - a.1) < b.1 - a.1 := Int.emod_lt_of_pos l w0
  have de : (b.1 - a.1) * (l / (b.1 - a.1)) + l % (b.1 - a.1) = l := Int.mul_ediv_add_emod l (b.1 - a.1)
  have ql : l / (b.1 - a.1) ≤ a.2 - b.2 := Int.ediv_le_of_le_mul w0 (by rw [← hlv] at l1; rw [← hlv]; exact l1)
  have hi : hiV a b x = a.2 - l / (b.1 - a.1) := by
    unfold hiV
    rw [hl, hw, e1]
    unfold wr
    rw [IntKind.wrap_i64, IntKind.wrap_i64]
    omega
  refine ⟨l / (b.1 - a.1), l % (b.1 - a.1), ⟨q0, r0, rl, by rw [hlv, de], ?_, ql, fun hr => ?_⟩⟩
  · unfold btwV
    rw [hl, hw, e2, hi]
    by_cases hr : l % (b.1 - a.1) > 0
    · rw [if_pos hr, decide_eq_true hr]
      have : wr (a.2 - l / (b.1 - a.1) - 1) = a.2 - l / (b.1 - a.1) - 1 := by unfold wr; rw [IntKind.wrap_i64]; omega
      rw [this]
    · rw [if_neg hr, decide_eq_false hr]
  · rcases (show l / (b.1 - a.1) < a.2 - b.2 ∨ a.2 - b.2 ≤ l / (b.1 - a.1) by omega) with h | h
    · omega
    · have he : l / (b.1 - a.1) = a.2 - b.2 := by omega
      rw [he, Int.mul_comm] at de
      omega
theorem ajk {p : Nat → Int × Int} {n : Nat} (ok : OkP p n) (x : Int) :
    (aiQ p n x = 0 ∧ ai7 p n x = ((p 0).2, (p 0).2)) ∨ (aiQ p n x = n ∧ ai7 p n x = ((p (n - 1)).2, (p (n - 1)).2)) ∨
    (0 < aiQ p n x ∧ aiQ p n x < n ∧ ∃ q r, Seg (p (aiQ p n x - 1)) (p (aiQ p n x)) x q r ∧ ai7 p n x = (if r > 0 then (p (aiQ p n x - 1)).2 - q - 1 else (p (aiQ p n x - 1)).2 - q, (p (aiQ p n x - 1)).2 - q)) := by
  have h1 := ok.lo
  have hlt := @aj4 p n x
  have hge := @aku p n x
  have hle := ald p n x
  have hP : aiQ p n x = if idxFrom p x n 0 = -1 then n else (idxFrom p x n 0).toNat := rfl
  have hV : ai7 p n x = if idxFrom p x n 0 = 0 then ((p 0).2, (p 0).2) else if idxFrom p x n 0 = -1 then ((p (n - 1)).2, (p (n - 1)).2) else btwV (p ((idxFrom p x n 0).toNat - 1)) (p (idxFrom p x n 0).toNat) x := rfl
  have hi := ajB p x n 0
  by_cases c1 : idxFrom p x n 0 = -1
  · rw [if_pos c1] at hP
    rw [if_neg (by omega), if_pos c1] at hV
    exact .inr (.inl ⟨hP, hV⟩)
  rw [if_neg c1] at hP
  rcases hi with hi | ⟨g1, g2, _, _⟩
  · exact absurd hi c1
  by_cases c0 : idxFrom p x n 0 = 0
  · rw [if_pos c0] at hV
    exact .inl ⟨by rw [hP, c0]; rfl, hV⟩
  rw [if_neg c0, if_neg c1, ← hP] at hV
  have hp : 0 < aiQ p n x ∧ aiQ p n x < n := by omega
  have dn := ok.dn _ hp.1 hp.2
  obtain ⟨q, r, sg⟩ := apU (ok.rg _ (show aiQ p n x - 1 < n by omega)) (ok.rg _ hp.2) (hlt (show aiQ p n x - 1 < aiQ p n x by omega)) (hge hp.2) dn.2
  exact .inr (.inr ⟨hp.1, hp.2, q, r, sg, by rw [hV, sg.val]⟩)
theorem apM {p : Nat → Int × Int} {n : Nat} (ok : OkP p n) : ∀ (d i : Nat), i + d < n → (p (i + d)).2 ≤ (p i).2 := by
  intro d
  induction d with
  | zero => intro i _; exact Int.le_refl _
  | succ d ih =>
    intro i h
    have h1 := ih i (by omega)
    have h2 := (ok.dn (i + (d + 1)) (by omega) h).2
    have e : i + (d + 1) - 1 = i + d := by omega
    rw [e] at h2
    omega
theorem ale {p : Nat → Int × Int} {n : Nat} (ok : OkP p n) (x : Int) : (ai7 p n x).1 ≤ (ai7 p n x).2 ∧ (ai7 p n x).2 ≤ (ai7 p n x).1 + 1 ∧ 0 ≤ (ai7 p n x).1 ∧ (ai7 p n x).2 ≤ 2199023255552 ∧
    (aiQ p n x < n → (p (aiQ p n x)).2 ≤ (ai7 p n x).1) ∧ (0 < aiQ p n x → (ai7 p n x).2 ≤ (p (aiQ p n x - 1)).2) := by
  have h1 := ok.lo
  have r0 := ok.rg 0 (by omega)
  have rn := ok.rg (n - 1) (by omega)
  rcases ajk ok x with ⟨e1, e2⟩ | ⟨e1, e2⟩ | ⟨g1, g2, q, r, sg, e2⟩
  · rw [e2, e1]; dsimp only
    exact ⟨by omega, by omega, by omega, by omega, fun _ => by omega, fun h => by omega⟩
  · rw [e2, e1]; dsimp only
    exact ⟨by omega, by omega, by omega, by omega, fun h => by omega, fun _ => by omega⟩
  · have ra := ok.rg (aiQ p n x - 1) (by omega)
    have rb := ok.rg (aiQ p n x) g2
    have l1 := sg.lo
    have l2 := sg.lo2
    have q0 := sg.q0
    rw [e2]
    dsimp only
    split
    · rename_i hr
      have := l2 hr
      exact ⟨by omega, by omega, by omega, by omega, fun _ => by omega, fun _ => by omega⟩
    · exact ⟨by omega, by omega, by omega, by omega, fun _ => by omega, fun _ => by omega⟩
theorem alN {p : Nat → Int × Int} {n : Nat} (ok : OkP p n) {x y : Int} (h : x ≤ y) : (ai7 p n y).1 ≤ (ai7 p n x).1 ∧ (ai7 p n y).2 ≤ (ai7 p n x).2 := by
  have hm : aiQ p n x ≤ aiQ p n y := anC h
  have hy := ald p n y
  have ix := ale ok x
  have iy := ale ok y
  by_cases he : aiQ p n x = aiQ p n y
  · rcases ajk ok x with ⟨e1, e2⟩ | ⟨e1, e2⟩ | ⟨g1, g2, q, r, sg, e2⟩
    · rcases ajk ok y with ⟨e3, e4⟩ | ⟨e3, e4⟩ | ⟨g3, _⟩
      · rw [e2, e4]; exact ⟨Int.le_refl _, Int.le_refl _⟩
      · have := ok.lo; omega
      · omega
    · rcases ajk ok y with ⟨e3, e4⟩ | ⟨e3, e4⟩ | ⟨_, g3, _⟩
      · have := ok.lo; omega
      · rw [e2, e4]; exact ⟨Int.le_refl _, Int.le_refl _⟩
      · omega
    · rcases ajk ok y with ⟨e3, _⟩ | ⟨e3, _⟩ | ⟨_, _, q', r', sg', e4⟩
      · omega
      · omega
      · rw [← he] at sg' e4
        rw [e2, e4]
        dsimp only
        have w0 := sg.rl
        have k1 := sg.eq
        have k2 := sg'.eq
        have r1 := sg.r0
        have r2 := sg'.r0
        have r3 := sg'.rl
        have d0 := (ok.dn _ g1 g2).2
        have km : ((p (aiQ p n x - 1)).2 - (p (aiQ p n x)).2) * (x - (p (aiQ p n x - 1)).1) ≤ ((p (aiQ p n x - 1)).2 - (p (aiQ p n x)).2) * (y - (p (aiQ p n x - 1)).1) := Int.mul_le_mul_of_nonneg_left (by omega) (by omega)
        rw [k1, k2] at km
        have hq : q ≤ q' := by
          rcases (show q' < q ∨ q ≤ q' by omega) with hlt | hge
          · have hge' : q' + 1 ≤ q := by omega
            have := Int.mul_le_mul_of_nonneg_left hge' (show 0 ≤ (p (aiQ p n x)).1 - (p (aiQ p n x - 1)).1 by omega)
            rw [Int.mul_add, Int.mul_one] at this
            omega
          · exact hge
        have hqr : q = q' → r ≤ r' := fun e => by rw [e] at km; omega
        refine ⟨?_, by omega⟩
        by_cases e : q = q'
        · have := hqr e
          repeat' split
          all_goals omega
        · repeat' split
          all_goals omega
  · have hlt : aiQ p n x < aiQ p n y := by omega
    have a1 := ix.2.2.2.2.1 (by omega)
    have a2 := iy.2.2.2.2.2 (by omega)
    have a3 := apM ok (aiQ p n y - 1 - aiQ p n x) (aiQ p n x) (by omega)
    have e : aiQ p n x + (aiQ p n y - 1 - aiQ p n x) = aiQ p n y - 1 := by omega
    rw [e] at a3
    omega
theorem aoZ {p : Nat → Int × Int} {n : Nat} (ok : OkP p n) : ∀ (d i : Nat), 0 < d → i + d < n → (p i).1 < (p (i + d)).1 := by
  intro d
  induction d with
  | zero => intro i h; omega
  | succ d ih =>
    intro i _ h
    have h2 := (ok.dn (i + (d + 1)) (by omega) h).1
    have e : i + (d + 1) - 1 = i + d := by omega
    rw [e] at h2
    by_cases hd : d = 0
    · subst hd; exact h2
    · have := ih i (by omega) (by omega)
      omega
theorem amv {p : Nat → Int × Int} {n : Nat} (ok : OkP p n) {j : Nat} {x : Int} (hj : j + 1 < n) (h1 : (p j).1 < x) (h2 : x ≤ (p (j + 1)).1) : aiQ p n x = j + 1 := by
  have hle := ald p n x
  rcases Nat.lt_trichotomy (aiQ p n x) (j + 1) with h | h | h
  · have g := aku (p := p) (n := n) (x := x) (by omega)
    by_cases e : aiQ p n x = j
    · rw [e] at g; omega
    · have := aoZ ok (j - aiQ p n x) (aiQ p n x) (by omega) (by omega)
      rw [show aiQ p n x + (j - aiQ p n x) = j by omega] at this
      omega
  · exact h
  · have := aj4 h
    omega
theorem aoF {p : Nat → Int × Int} {n : Nat} (ok : OkP p n) {j : Nat} (hj : j < n) : aiQ p n (p j).1 = j := by
  by_cases h0 : j = 0
  · subst h0
    rcases Nat.eq_zero_or_pos (aiQ p n (p 0).1) with h | h
    · exact h
    · have := aj4 h; omega
  · have e := amv ok (j := j - 1) (x := (p j).1) (by omega) (ok.dn j (by omega) hj).1 (by rw [show j - 1 + 1 = j by omega]; exact Int.le_refl _)
    omega
theorem anf {p : Nat → Int × Int} {n : Nat} (ok : OkP p n) {j : Nat} (hj : j < n) : ai7 p n (p j).1 = ((p j).2, (p j).2) := by
  have e := aoF ok hj
  rcases ajk ok (p j).1 with ⟨e1, e2⟩ | ⟨e1, e2⟩ | ⟨g1, g2, q, r, sg, e2⟩
  · rw [e2, show j = 0 by omega]
  · omega
  · rw [e] at sg e2 g1
    rw [e2]
    have h1 := sg.eq
    have h2 := sg.rl
    have h3 := sg.r0
    have h4 := sg.lo
    have dn := ok.dn j g1 hj
    generalize (p (j - 1)).2 = a2, (p j).2 = b2, (p (j - 1)).1 = a1, (p j).1 = b1 at h1 h2 h3 h4 dn ⊢
    have hq : q = a2 - b2 := by
      rcases (show q < a2 - b2 ∨ q = a2 - b2 by omega) with hlt | he
      · have := Int.mul_le_mul_of_nonneg_left (show q + 1 ≤ a2 - b2 by omega) (show 0 ≤ b1 - a1 by omega)
        rw [Int.mul_add, Int.mul_one, Int.mul_comm (b1 - a1) (a2 - b2)] at this
        omega
      · exact he
    have hr : r = 0 := by
      rw [hq, Int.mul_comm] at h1
      omega
    rw [if_neg (by omega)]
    congr 1 <;> omega
def alp (a b : Int) : Int := match decide (a.tmod b < 0) with
  | true => wr (wr (a.tdiv b) - 1)
  | false => wr (a.tdiv b)
def amn (a b : Int) : Option Int := match b != 0 with
  | true => some (alp a b)
  | false => none
def apc (a b : Int) : Option Int := match amn (wr (0 - a)) b with
  | some q => some (wr (0 - q))
  | none => none
def anK (a b : Int × Int) (x : Int) : Int := wr (wr (b.2 - a.2) * wr (x - a.1))
theorem an4 {l w q r : Int} (hw : 0 < w) (hl : l = w * q + r) (q0 : 0 ≤ q) (q1 : q ≤ 4398046511104) (r0 : 0 ≤ r) (rl : r < w) : alp (-l) w = (if r > 0 then -q - 1 else -q) ∧ alp l w = q := by
  have l0 : 0 ≤ l := by
    have := Int.mul_nonneg (show 0 ≤ w by omega) q0
    omega
  have u : l / w = q ∧ l % w = r := (Int.ediv_emod_unique hw).2 ⟨by omega, r0, rl⟩
  have e1 : l.tdiv w = q := by rw [Int.tdiv_eq_ediv_of_nonneg l0]; exact u.1
  have e2 : l.tmod w = r := by rw [Int.tmod_eq_emod_of_nonneg l0]; exact u.2
  unfold alp
  rw [Int.neg_tdiv, Int.neg_tmod, e1, e2]
  have w1 : wr (-q) = -q := by unfold wr; rw [IntKind.wrap_i64]; omega
  have w2 : wr (-q - 1) = -q - 1 := by unfold wr; rw [IntKind.wrap_i64]; omega
  have w3 : wr q = q := by unfold wr; rw [IntKind.wrap_i64]; omega
  refine ⟨?_, kf (decide_eq_false (by omega)) w3⟩
  by_cases hr : r > 0
  · rw [if_pos hr]
    exact kt (decide_eq_true (by omega)) (by rw [w1, w2])
  · rw [if_neg hr]
    exact kf (decide_eq_false (by omega)) w1
theorem le_last {p : Nat → Int × Int} {n : Nat} (ok : OkP p n) {j : Nat} (hj : j < n) : (p j).1 ≤ (p (n - 1)).1 := by
  by_cases h : j = n - 1
  · rw [h]; exact Int.le_refl _
  · have := aoZ ok (n - 1 - j) j (by omega) (by omega)
    rw [show j + (n - 1 - j) = n - 1 by omega] at this
    omega
theorem amX {p : Nat → Int × Int} {n : Nat} (ok : OkP p n) {x : Int} (h : x ≤ (p 0).1) : ai7 p n x = ((p 0).2, (p 0).2) := by
  have h1 := ok.lo
  rcases ajk ok x with ⟨_, e2⟩ | ⟨e1, _⟩ | ⟨g1, _⟩
  · exact e2
  · have := aj4 (p := p) (n := n) (x := x) (j := 0) (by omega); omega
  · have := aj4 (p := p) (n := n) (x := x) (j := 0) (by omega); omega
theorem anD {p : Nat → Int × Int} {n : Nat} (ok : OkP p n) {x : Int} (h : (p (n - 1)).1 ≤ x) : ai7 p n x = ((p (n - 1)).2, (p (n - 1)).2) := by
  have h1 := ok.lo
  by_cases e : x = (p (n - 1)).1
  · rw [e]; exact anf ok (by omega)
  · rcases ajk ok x with ⟨e1, _⟩ | ⟨_, e2⟩ | ⟨_, g2, _⟩
    · have := aku (p := p) (n := n) (x := x) (by omega)
      rw [e1] at this
      have := le_last ok (show 0 < n by omega)
      omega
    · exact e2
    · have := aku (p := p) (n := n) (x := x) g2
      have := le_last ok g2
      omega
theorem apv {a b : Int × Int} {x q r : Int} (ha : -1048576 ≤ a.1 ∧ a.1 ≤ 1048576 ∧ 0 ≤ a.2 ∧ a.2 ≤ 2199023255552) (hb : -1048576 ≤ b.1 ∧ b.1 ≤ 1048576 ∧ 0 ≤ b.2 ∧ b.2 ≤ 2199023255552)
    (h1 : a.1 ≤ x) (h2 : x ≤ b.1) (h3 : b.2 ≤ a.2) (hw : a.1 < b.1) (q0 : 0 ≤ q) (q1 : q ≤ a.2 - b.2) (r0 : 0 ≤ r) (rl : r < b.1 - a.1) (eq : (a.2 - b.2) * (x - a.1) = (b.1 - a.1) * q + r) :
    amn (anK a b x) (aj8 a b) = some (if r > 0 then -q - 1 else -q) ∧ apc (anK a b x) (aj8 a b) = some (-q) := by
  have hwd : aj8 a b = b.1 - a.1 := by unfold aj8 wr; rw [IntKind.wrap_i64]; omega
  have hd : wr (b.2 - a.2) = b.2 - a.2 := by unfold wr; rw [IntKind.wrap_i64]; omega
  have ht : wr (x - a.1) = x - a.1 := by unfold wr; rw [IntKind.wrap_i64]; omega
  have l0 : 0 ≤ (a.2 - b.2) * (x - a.1) := Int.mul_nonneg (by omega) (by omega)
  have l1 : (a.2 - b.2) * (x - a.1) ≤ 2199023255552 * 2097152 := Int.mul_le_mul (by omega) (by omega) (by omega) (by omega)
  have hu : anK a b x = -((a.2 - b.2) * (x - a.1)) := by
    unfold anK
    rw [hd, ht, show b.2 - a.2 = -(a.2 - b.2) by omega, Int.neg_mul]
    unfold wr
    rw [IntKind.wrap_i64]
    generalize (a.2 - b.2) * (x - a.1) = l at l0 l1 ⊢
    omega
  rw [hu, hwd]
  generalize (a.2 - b.2) * (x - a.1) = l at l0 l1 eq ⊢
  have fs := an4 (l := l) (w := b.1 - a.1) (q := q) (r := r) (by omega) eq q0 (by omega) r0 rl
  have hn : wr (0 - -l) = l := by unfold wr; rw [IntKind.wrap_i64]; omega
  have hq : wr (0 - q) = -q := by unfold wr; rw [IntKind.wrap_i64]; omega
  have hne : (b.1 - a.1 != 0) = true := by simp; omega
  unfold apc amn
  rw [hne, hn, fs.1, fs.2]
  dsimp only
  rw [hq]
  exact ⟨rfl, rfl⟩
def pOf (c : Sq qH) (i : Nat) : Int × Int := ((c.f i).Flow, (c.f i).Pressure)
def spS (s : Int × Int) : qB := ⟨s.1, s.2⟩
def okC (c : Sq qH) : Prop := OkP (pOf c) c.n
theorem aj1 {f : SFan} (h : fanE f = 0) : okC f.Curve := by
  unfold fanE at h
  by_cases h0 : f.Road < 0
  · rw [if_pos h0] at h; cases h
  rw [if_neg h0] at h
  by_cases h1 : f.Curve.n = 0
  · rw [if_pos h1] at h; cases h
  rw [if_neg h1] at h
  by_cases h2 : f.Curve.n > 8
  · rw [if_pos h2] at h; cases h
  rw [if_neg h2] at h
  have hne : ∀ i z, gC f.Curve i = some z → z ≠ 0 := by
    intro i z h
    unfold gC at h
    split at h
    · injection h with h; omega
    · split at h
      · injection h with h; omega
      · split at h
        · injection h with h; omega
        · cases h
  have hn := aj2 hne h
  have all : ∀ i, i < f.Curve.n → (-1048576 ≤ (f.Curve.f i).Flow ∧ (f.Curve.f i).Flow ≤ 1048576) ∧ (0 ≤ (f.Curve.f i).Pressure ∧ (f.Curve.f i).Pressure ≤ 2199023255552) ∧ (0 < i → (f.Curve.f (i - 1)).Flow < (f.Curve.f i).Flow ∧ (f.Curve.f i).Pressure ≤ (f.Curve.f (i - 1)).Pressure) := by
    intro i hi
    have := oh hn i (by omega) (by omega)
    unfold gC at this
    by_cases a1 : -1048576 ≤ (f.Curve.f i).Flow ∧ (f.Curve.f i).Flow ≤ 1048576
    · rw [if_neg (not_not_intro a1)] at this
      by_cases a2 : 0 ≤ (f.Curve.f i).Pressure ∧ (f.Curve.f i).Pressure ≤ 2199023255552
      · rw [if_neg (not_not_intro a2)] at this
        refine ⟨a1, a2, fun h0 => ?_⟩
        split at this
        · cases this
        · rename_i h3
          exact Classical.not_not.1 fun h4 => h3 ⟨h0, h4⟩
      · rw [if_pos a2] at this; cases this
    · rw [if_pos a1] at this; cases this
  exact ⟨by omega, by omega, fun i hi => ⟨(all i hi).1.1, (all i hi).1.2, (all i hi).2.1.1, (all i hi).2.1.2⟩, fun i h0 hi => (all i hi).2.2 h0⟩
def gIdx (c : Sq qH) (x : Int) (i : Nat) : Option Int := if (c.f i).Flow ≥ x then some (i : Int) else none
theorem apk (c : Sq qH) (x : Int) : ∀ k i, (match bn (gIdx c x) k i with | some z => z | none => -1) = idxFrom (pOf c) x k i := by
  intro k
  induction k with
  | zero => intro i; rfl
  | succ k ih =>
    intro i
    unfold bn idxFrom gIdx
    by_cases h : (c.f i).Flow ≥ x
    · rw [if_pos h, if_pos (show (pOf c i).1 ≥ x from h)]
    · rw [if_neg h, if_neg (show ¬ (pOf c i).1 ≥ x from h)]; exact ih (i + 1)
theorem ajE (c : Sq qH) (x : Int) (h : c.n ≤ 8) : FY c x = some (idxFrom (pOf c) x c.n 0) := by
  rw [acr]; unfold EJ
  have e : Ee c x 0 = some (sumO (bn (gIdx c x) c.n 0)) := by
    rw [aaq, ← aiX]
    refine oM (step := fun v => zU c x v) (gIdx c x) (fun i hi => ?_) ?_ c.n 0 (Nat.zero_add _)
    · unfold zU gIdx
      have e1 : ∀ p, TB p x = some (decide (p.Flow ≥ x)) := fun p => by rw [afC]; rfl
      rw [qo (dlt hi), qo (dix hi), qc (by omega), pI, get_bind (e1 _)]
      by_cases a : (c.f i).Flow ≥ x
      · rw [qo (decide_eq_true a), if_pos a]; rfl
      · rw [qm (decide_eq_false a), if_neg a]; rfl
    · unfold zU
      rw [qm (dge (Nat.le_refl _))]
      rfl
  rw [pV e, ← apk]
  cases bn (gIdx c x) c.n 0 <;> rfl
theorem ajF (n : Int) : Np n = some ⟨n, n⟩ := by rw [ahp]; rfl
theorem al2 (a b : qH) (x : Int) (h : (aj8 (a.Flow, a.Pressure) (b.Flow, b.Pressure) != 0) = true) : aaO a b x = some (spS (btwV (a.Flow, a.Pressure) (b.Flow, b.Pressure) x)) := by
  rw [ahn]; unfold Wv
  have h : (wr (b.Flow - a.Flow) != 0) = true := h
  rw [qo h, get_bind (ajF _), qo h]
  unfold btwV
  by_cases q : (aob (a.Flow, a.Pressure) (b.Flow, b.Pressure) x).tmod (aj8 (a.Flow, a.Pressure) (b.Flow, b.Pressure)) > 0
  · rw [decide_eq_true q]; exact qo (decide_eq_true q)
  · rw [decide_eq_false q]; exact qm (decide_eq_false q)
def prS (c : Sq qH) (x : Int) : qB := spS (ai7 (pOf c) c.n x)
theorem akc {c : Sq qH} (ok : okC c) (x : Int) : Qi c x = some (prS c x) := by
  have h1 := ok.lo
  have h2 := ok.hi
  rw [agW]; unfold TD prS ai7
  rw [get_bind (ajE c x h2)]
  have hi := ajB (pOf c) x c.n 0
  generalize idxFrom (pOf c) x c.n 0 = i at hi ⊢
  by_cases c0 : i = 0
  · rw [if_pos c0, qo (by simp [c0]), qo (decide_eq_true ⟨Int.le_refl _, by omega⟩), get_bind (ajF _)]; rfl
  rw [if_neg c0, qm (by simp [c0])]
  by_cases c1 : i = -1
  · rw [if_pos c1, qo (by simp [c1]), oW (by omega) (by omega), qo (dix (by omega)), pI, get_bind (ajF _)]; rfl
  rw [if_neg c1, qm (by simp [c1])]
  rcases hi with hi | ⟨g1, g2, _, _⟩
  · exact absurd hi c1
  have e : wr (i - 1) = ((i.toNat - 1 : Nat) : Int) := by rw [pJ (by omega) (by omega)]; omega
  have hd := ok.dn i.toNat (by omega) (by omega)
  have hr1 := ok.rg i.toNat (by omega)
  have hr0 := ok.rg (i.toNat - 1) (by omega)
  have hw : (aj8 (pOf c (i.toNat - 1)) (pOf c i.toNat) != 0) = true := by
    unfold aj8
    rw [pJ (by omega) (by omega)]
    simp
    omega
  rw [e, qo (dix (by omega)), qo (decide_eq_true ⟨by omega, by omega⟩), pI, get_bind (al2 _ _ _ hw)]
  rfl
def aoO (s : qB) : qB := ⟨wr (0 - s.High), wr (0 - s.Low)⟩
def ai3 (c : Sq qH) (back : Bool) (x : Int) : qB := if back = true then aoO (prS c (wr (0 - x))) else prS c x
theorem ajp {c : Sq qH} (ok : okC c) (back : Bool) (x : Int) : Js c back x = some (ai3 c back x) := by
  rw [aho]; unfold Ww ai3
  cases back with
  | true => rw [qm (b := !true) rfl, get_bind (akc ok _), if_pos rfl]; rfl
  | false => rw [qo (b := !false) rfl, get_bind (akc ok _), if_neg (by simp)]; rfl
def minI (a b : Int) : Int := if b < a then b else a
def maxI (a b : Int) : Int := if a < b then b else a
def stS (f : SFan) (st x : Int) : qB :=
  if st = 0 then ⟨0, 0⟩ else if st = 1 then ai3 f.Curve f.Back x else if st = 2 then ai3 f.Curve (!f.Back) x
  else ⟨minI (minI 0 (ai3 f.Curve f.Back x).Low) (ai3 f.Curve (!f.Back) x).Low, maxI (maxI 0 (ai3 f.Curve f.Back x).High) (ai3 f.Curve (!f.Back) x).High⟩
theorem aoz {f : SFan} (h : fanE f = 0) {st : Int} (hs : -1 ≤ st ∧ st ≤ 2) (x : Int) (hx : -1048577 ≤ x ∧ x ≤ 1048577) : aiv f st x = some (stS f st x) := by
  have ok := aj1 h
  rw [aiL]; unfold ae1 stS
  rw [get_bind (aln f), qm (by simp [h]), get_bind (ajQ _ _ _), qm (by simp only [decide_eq_true hx, Bool.not_true])]
  by_cases c1 : st = 1
  · rw [qo (by simp [c1]), get_bind (ajp ok _ _), if_neg (show ¬ st = 0 by omega), if_pos c1]; rfl
  rw [qm (by simp [c1])]
  by_cases c2 : st = 2
  · rw [qo (by simp [c2]), get_bind (ajp ok _ _), if_neg (show ¬ st = 0 by omega), if_neg c1, if_pos c2]; rfl
  rw [qm (by simp [c2])]
  by_cases c3 : st = -1
  · rw [qo (by simp [c3]), get_bind (ajp ok _ _), get_bind (ajp ok _ _), if_neg (show ¬ st = 0 by omega), if_neg c1, if_neg c2]; rfl
  · rw [qm (by simp [c3]), if_pos (show st = 0 by omega)]; rfl
theorem akw (a b : Int) (h : (b != 0) = true) : Vn a b = some (alp a b) := by
  rw [ahw]; unfold Xa alp
  rw [qo h, qo h]
  by_cases q : a.tmod b < 0
  · rw [qo (decide_eq_true q), decide_eq_true q]; rfl
  · rw [qm (decide_eq_false q), decide_eq_false q]; rfl
theorem amy (a b : Int) (h : (b != 0) = true) : Yn a b = some (wr (0 - alp (wr (0 - a)) b)) := by
  rw [aia]; unfold Zj
  rw [get_bind (akw _ _ h)]; rfl
theorem anE {c : Sq qH} (ok : okC c) (x a : Int) (b d : Bool) (h0 : (pOf c 0).1 < x) (h1 : x < (pOf c (c.n - 1)).1) :
    ∃ k : Nat, Ub x a b d c 0 = some (.inl (k : Int)) ∧ k + 1 < c.n ∧ (pOf c k).1 ≤ x ∧ x < (pOf c (k + 1)).1 := by
  have l1 := ok.lo
  have l2 := ok.hi
  have key := pY (step := fun v => JI x a b d c v) (fun v => ∃ k : Nat, v = k ∧ k + 1 < c.n ∧ (pOf c k).1 ≤ x) (fun v => c.n - v.toNat)
    (fun z => ∃ k : Nat, z = .inl (k : Int) ∧ k + 1 < c.n ∧ (pOf c k).1 ≤ x ∧ x < (pOf c (k + 1)).1) (fun v hv => by
      obtain ⟨k, rfl, hk, hx⟩ := hv
      unfold JI
      rw [qc (by omega), qo (dix hk), pI]
      by_cases q : (c.f (k + 1)).Flow ≤ x
      · rw [qo (decide_eq_true q)]
        refine ⟨_, rfl, ⟨k + 1, rfl, ?_, q⟩, by omega⟩
        rcases Nat.lt_or_ge (k + 1 + 1) c.n with h | h
        · exact h
        · have e : c.n - 1 = k + 1 := by omega
          rw [e] at h1
          have : (pOf c (k + 1)).1 = (c.f (k + 1)).Flow := rfl
          omega
      · rw [qm (decide_eq_false q)]
        exact ⟨_, rfl, k, rfl, hk, hx, by show x < (c.f (k + 1)).Flow; omega⟩)
    0 ⟨0, rfl, by
      rcases Nat.lt_or_ge (0 + 1) c.n with h | h
      · exact h
      · have e : c.n - 1 = 0 := by omega
        rw [e] at h1
        omega, by omega⟩
  obtain ⟨z, hz, k, rfl, g1, g2, g3⟩ := key
  exact ⟨k, by rw [afK]; exact hz, g1, g2, g3⟩
theorem akx {f : SFan} (ok : okC f.Curve) (x : Int) : Vp f x = some (prS f.Curve x) := by
  have h1 := ok.lo
  have h2 := ok.hi
  rw [ahA]; unfold Xf prS
  rw [qo (decide_eq_true ⟨Int.le_refl _, by omega⟩)]
  by_cases c1 : x ≤ (f.Curve.f 0).Flow
  · rw [qo (decide_eq_true c1), qo (decide_eq_true ⟨Int.le_refl _, by omega⟩), qo (decide_eq_true ⟨Int.le_refl _, by omega⟩), amX ok c1]; rfl
  rw [qm (decide_eq_false c1), oW h1 (by omega), qo (dix (by omega)), pI]
  by_cases c2 : x ≥ (f.Curve.f (f.Curve.n - 1)).Flow
  · rw [qo (decide_eq_true c2), qo (dix (by omega)), qo (dix (by omega)), anD ok c2]; rfl
  rw [qm (decide_eq_false c2)]
  obtain ⟨k, e, k1, k2, k3⟩ := anE ok x f.Road f.Back f.Auxiliary (show (f.Curve.f 0).Flow < x by omega) (show x < (f.Curve.f (f.Curve.n - 1)).Flow by omega)
  rw [pV e]
  show DT.get (DT.ite _ _ _) = _
  rw [qo (dix (by omega)), qc (by omega), qo (dix k1), pI, pI]
  have ra := ok.rg k (by omega)
  have rb := ok.rg (k + 1) k1
  have dn := ok.dn (k + 1) (by omega) k1
  rw [show k + 1 - 1 = k by omega] at dn
  have fin : ∀ q r : Int, 0 ≤ q → q ≤ (pOf f.Curve k).2 - (pOf f.Curve (k + 1)).2 → 0 ≤ r → r < (pOf f.Curve (k + 1)).1 - (pOf f.Curve k).1 → ((pOf f.Curve k).2 - (pOf f.Curve (k + 1)).2) * (x - (pOf f.Curve k).1) = ((pOf f.Curve (k + 1)).1 - (pOf f.Curve k).1) * q + r → ai7 (pOf f.Curve) f.Curve.n x = (if r > 0 then (pOf f.Curve k).2 - q - 1 else (pOf f.Curve k).2 - q, (pOf f.Curve k).2 - q) →
      (DT.bind (Vn (anK (pOf f.Curve k) (pOf f.Curve (k + 1)) x) (aj8 (pOf f.Curve k) (pOf f.Curve (k + 1)))) fun z793 => DT.bind (Yn (anK (pOf f.Curve k) (pOf f.Curve (k + 1)) x) (aj8 (pOf f.Curve k) (pOf f.Curve (k + 1)))) fun z795 => DT.leaf (qB.mk (wr ((pOf f.Curve k).2 + z793)) (wr ((pOf f.Curve k).2 + z795)))).get = some (spS (ai7 (pOf f.Curve) f.Curve.n x)) := by
    intro q r q0 q1 r0 rl eq hv
    obtain ⟨s1, s2⟩ := apv ra rb k2 (by omega) dn.2 dn.1 q0 q1 r0 rl eq
    have hne : (aj8 (pOf f.Curve k) (pOf f.Curve (k + 1)) != 0) = true := by
      unfold aj8
      rw [pJ (by omega) (by omega)]
      simp
      omega
    unfold apc amn at s2
    unfold amn at s1
    rw [hne] at s1 s2
    dsimp only at s1 s2
    rw [get_bind (akw _ _ hne), get_bind (amy _ _ hne), Option.some.inj s1, Option.some.inj s2, hv]
    have g1 : wr ((pOf f.Curve k).2 + -q) = (pOf f.Curve k).2 - q := by rw [pJ (by omega) (by omega)]; omega
    rw [DT.get_leaf, g1]
    by_cases hr : r > 0
    · rw [if_pos hr, if_pos hr]
      have g2 : wr ((pOf f.Curve k).2 + (-q - 1)) = (pOf f.Curve k).2 - q - 1 := by rw [pJ (by omega) (by omega)]; omega
      rw [g2]; rfl
    · rw [if_neg hr, if_neg hr, g1]; rfl
  by_cases hx : x = (pOf f.Curve k).1
  · refine fin 0 0 (Int.le_refl _) (by omega) (Int.le_refl _) (by omega) (by rw [hx]; simp) ?_
    rw [hx, anf ok (by omega)]
    simp
  · have pl := amv ok (j := k) (x := x) k1 (by omega) (by omega)
    rcases ajk ok x with ⟨e3, _⟩ | ⟨e3, _⟩ | ⟨_, _, q, r, sg, hv⟩
    · omega
    · omega
    · rw [pl, show k + 1 - 1 = k by omega] at sg hv
      exact fin q r sg.q0 sg.lo sg.r0 sg.rl sg.eq hv
theorem ajq {f : SFan} (ok : okC f.Curve) (back : Bool) (x : Int) : JG f back x = some (ai3 f.Curve back x) := by
  rw [ahy]; unfold Xd ai3
  cases back with
  | true => rw [qo rfl, get_bind (akx ok _), if_pos rfl]; rfl
  | false => rw [qm rfl, get_bind (akx ok _), if_neg (by simp)]; rfl
theorem aky {f : SFan} (ok : okC f.Curve) (st x : Int) : Vq f st x = some (stS f st x) := by
  rw [ahB]; unfold Xg stS
  by_cases c0 : st = 0
  · rw [qo (by simp [c0]), if_pos c0]; rfl
  rw [qm (by simp [c0]), if_neg c0]
  by_cases c1 : st = 1
  · rw [qo (by simp [c1]), get_bind (ajq ok _ _), if_pos c1]; rfl
  rw [qm (by simp [c1]), if_neg c1]
  by_cases c2 : st = 2
  · rw [qo (by simp [c2]), get_bind (ajq ok _ _), if_pos c2]; rfl
  rw [qm (by simp [c2]), if_neg c2, get_bind (ajq ok _ _), get_bind (ajq ok _ _), DT.get_leaf]
  cases f.Back with
  | true =>
    show some (qB.mk _ _) = some (qB.mk (minI (minI 0 (ai3 f.Curve true x).Low) (ai3 f.Curve false x).Low) (maxI (maxI 0 (ai3 f.Curve true x).High) (ai3 f.Curve false x).High))
    unfold minI maxI
    congr 2
    · repeat' split
      all_goals omega
    · repeat' split
      all_goals omega
  | false =>
    show some (qB.mk _ _) = some (qB.mk (minI (minI 0 (ai3 f.Curve false x).Low) (ai3 f.Curve true x).Low) (maxI (maxI 0 (ai3 f.Curve false x).High) (ai3 f.Curve true x).High))
    unfold minI maxI
    congr 2
    · repeat' split
      all_goals omega
    · repeat' split
      all_goals omega
end Go.Proofs.YtimkpfnbkclclaaGreat.Ab
