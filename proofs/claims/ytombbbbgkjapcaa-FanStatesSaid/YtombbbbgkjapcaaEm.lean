/- Stage 7: what the pressure on a right curve is; it never rises. -/
import Derived.Test.YtombbbbgkjapcaaEt
namespace Go.Proofs.Ytombbbbgkjapcaa.Ab
open Go

/-- The place where a flow lies: n if behind all. -/
def placeV (p : Nat → Int × Int) (n : Nat) (x : Int) : Nat := if idxFrom p x n 0 = -1 then n else (idxFrom p x n 0).toNat
theorem place_lt {p : Nat → Int × Int} {n : Nat} {x : Int} {j : Nat} (h : j < placeV p n x) : (p j).1 < x := by
  unfold placeV at h
  split at h
  · rename_i h0; exact idxFrom_none p x n 0 h0 j (Nat.zero_le _) (by omega)
  · rename_i h0
    rcases idxFrom_lo p x n 0 with h1 | ⟨_, _, _, h4⟩
    · exact absurd h1 h0
    · exact h4 j (Nat.zero_le _) (by omega)
theorem place_ge {p : Nat → Int × Int} {n : Nat} {x : Int} (h : placeV p n x < n) : (p (placeV p n x)).1 ≥ x := by
  unfold placeV at h ⊢
  split
  · rename_i h0; rw [if_pos h0] at h; omega
  · rename_i h0
    rcases idxFrom_lo p x n 0 with h1 | ⟨_, _, h3, _⟩
    · exact absurd h1 h0
    · exact h3
theorem place_le (p : Nat → Int × Int) (n : Nat) (x : Int) : placeV p n x ≤ n := by
  unfold placeV
  split
  · omega
  · rename_i h0
    rcases idxFrom_lo p x n 0 with h1 | ⟨_, h2, _, _⟩
    · exact absurd h1 h0
    · omega
theorem place_mono {p : Nat → Int × Int} {n : Nat} {x y : Int} (h : x ≤ y) : placeV p n x ≤ placeV p n y := by
  rcases Nat.lt_or_ge (placeV p n y) (placeV p n x) with h1 | h1
  · have h2 := place_lt h1
    have h3 := place_ge (p := p) (n := n) (x := y) (by have := place_le p n x; omega)
    omega
  · exact h1
/-- The line between two points, without limits of numbers. -/
structure Seg (a b : Int × Int) (x : Int) (q r : Int) : Prop where
  q0 : 0 ≤ q
  r0 : 0 ≤ r
  rl : r < b.1 - a.1
  eq : (a.2 - b.2) * (x - a.1) = (b.1 - a.1) * q + r
  val : btwV a b x = (if r > 0 then a.2 - q - 1 else a.2 - q, a.2 - q)
  lo : q ≤ a.2 - b.2
  lo2 : r > 0 → q + 1 ≤ a.2 - b.2
theorem seg_of {a b : Int × Int} {x : Int} (ha : -1048576 ≤ a.1 ∧ a.1 ≤ 1048576 ∧ 0 ≤ a.2 ∧ a.2 ≤ 2199023255552) (hb : -1048576 ≤ b.1 ∧ b.1 ≤ 1048576 ∧ 0 ≤ b.2 ∧ b.2 ≤ 2199023255552)
    (h1 : a.1 < x) (h2 : x ≤ b.1) (h3 : b.2 ≤ a.2) : ∃ q r, Seg a b x q r := by
  have hw : wideV a b = b.1 - a.1 := by unfold wideV wr; rw [IntKind.wrap_i64]; omega
  have hd : wr (a.2 - b.2) = a.2 - b.2 := by unfold wr; rw [IntKind.wrap_i64]; omega
  have ht : wr (x - a.1) = x - a.1 := by unfold wr; rw [IntKind.wrap_i64]; omega
  have l0 : 0 ≤ (a.2 - b.2) * (x - a.1) := Int.mul_nonneg (by omega) (by omega)
  have l1 : (a.2 - b.2) * (x - a.1) ≤ (a.2 - b.2) * (b.1 - a.1) := Int.mul_le_mul_of_nonneg_left (by omega) (by omega)
  have l2 : (a.2 - b.2) * (b.1 - a.1) ≤ 2199023255552 * 2097152 := Int.mul_le_mul (by omega) (by omega) (by omega) (by omega)
  have hl : lossV a b x = (a.2 - b.2) * (x - a.1) := by
    unfold lossV
    rw [hd, ht]
    unfold wr
    rw [IntKind.wrap_i64]
    generalize (a.2 - b.2) * (x - a.1) = l at l0 l1 ⊢
    omega
  have w0 : 0 < b.1 - a.1 := by omega
  generalize hlv : (a.2 - b.2) * (x - a.1) = l at l0 l1 hl
  have e1 : l.tdiv (b.1 - a.1) = l / (b.1 - a.1) := Int.tdiv_eq_ediv_of_nonneg l0
  have e2 : l.tmod (b.1 - a.1) = l % (b.1 - a.1) := Int.tmod_eq_emod_of_nonneg l0
  have q0 : 0 ≤ l / (b.1 - a.1) := Int.ediv_nonneg l0 (by omega)
  have r0 : 0 ≤ l % (b.1 - a.1) := Int.emod_nonneg l (by omega)
  have rl : l % (b.1 - a.1) < b.1 - a.1 := Int.emod_lt_of_pos l w0
  have de : (b.1 - a.1) * (l / (b.1 - a.1)) + l % (b.1 - a.1) = l := Int.mul_ediv_add_emod l (b.1 - a.1)
  have ql : l / (b.1 - a.1) ≤ a.2 - b.2 := Int.ediv_le_of_le_mul w0 (by rw [← hlv] at l1; rw [← hlv]; exact l1)
  have hi : hiV a b x = a.2 - l / (b.1 - a.1) := by
    unfold hiV
    rw [hl, hw, e1]
    unfold wr
    rw [IntKind.wrap_i64, IntKind.wrap_i64]
    omega
  refine ⟨l / (b.1 - a.1), l % (b.1 - a.1), ⟨q0, r0, rl, by rw [hlv, de], ?_, ql, fun hr => ?_⟩⟩
  · unfold btwV
    rw [hl, hw, e2, hi]
    by_cases hr : l % (b.1 - a.1) > 0
    · rw [if_pos hr, decide_eq_true hr]
      have : wr (a.2 - l / (b.1 - a.1) - 1) = a.2 - l / (b.1 - a.1) - 1 := by unfold wr; rw [IntKind.wrap_i64]; omega
      rw [this]
    · rw [if_neg hr, decide_eq_false hr]
  · rcases (show l / (b.1 - a.1) < a.2 - b.2 ∨ a.2 - b.2 ≤ l / (b.1 - a.1) by omega) with h | h
    · omega
    · have he : l / (b.1 - a.1) = a.2 - b.2 := by omega
      rw [he, Int.mul_comm] at de
      omega
theorem press_at {p : Nat → Int × Int} {n : Nat} (ok : OkP p n) (x : Int) :
    (placeV p n x = 0 ∧ pressV p n x = ((p 0).2, (p 0).2)) ∨ (placeV p n x = n ∧ pressV p n x = ((p (n - 1)).2, (p (n - 1)).2)) ∨
    (0 < placeV p n x ∧ placeV p n x < n ∧ ∃ q r, Seg (p (placeV p n x - 1)) (p (placeV p n x)) x q r ∧ pressV p n x = (if r > 0 then (p (placeV p n x - 1)).2 - q - 1 else (p (placeV p n x - 1)).2 - q, (p (placeV p n x - 1)).2 - q)) := by
  have h1 := ok.lo
  have hlt := @place_lt p n x
  have hge := @place_ge p n x
  have hle := place_le p n x
  have hP : placeV p n x = if idxFrom p x n 0 = -1 then n else (idxFrom p x n 0).toNat := rfl
  have hV : pressV p n x = if idxFrom p x n 0 = 0 then ((p 0).2, (p 0).2) else if idxFrom p x n 0 = -1 then ((p (n - 1)).2, (p (n - 1)).2) else btwV (p ((idxFrom p x n 0).toNat - 1)) (p (idxFrom p x n 0).toNat) x := rfl
  have hi := idxFrom_lo p x n 0
  by_cases c1 : idxFrom p x n 0 = -1
  · rw [if_pos c1] at hP
    rw [if_neg (by omega), if_pos c1] at hV
    exact .inr (.inl ⟨hP, hV⟩)
  rw [if_neg c1] at hP
  rcases hi with hi | ⟨g1, g2, _, _⟩
  · exact absurd hi c1
  by_cases c0 : idxFrom p x n 0 = 0
  · rw [if_pos c0] at hV
    exact .inl ⟨by rw [hP, c0]; rfl, hV⟩
  rw [if_neg c0, if_neg c1, ← hP] at hV
  have hp : 0 < placeV p n x ∧ placeV p n x < n := by omega
  have dn := ok.dn _ hp.1 hp.2
  obtain ⟨q, r, sg⟩ := seg_of (ok.rg _ (show placeV p n x - 1 < n by omega)) (ok.rg _ hp.2) (hlt (show placeV p n x - 1 < placeV p n x by omega)) (hge hp.2) dn.2
  exact .inr (.inr ⟨hp.1, hp.2, q, r, sg, by rw [hV, sg.val]⟩)
theorem dn_all {p : Nat → Int × Int} {n : Nat} (ok : OkP p n) : ∀ (d i : Nat), i + d < n → (p (i + d)).2 ≤ (p i).2 := by
  intro d
  induction d with
  | zero => intro i _; exact Int.le_refl _
  | succ d ih =>
    intro i h
    have h1 := ih i (by omega)
    have h2 := (ok.dn (i + (d + 1)) (by omega) h).2
    have e : i + (d + 1) - 1 = i + d := by omega
    rw [e] at h2
    omega
/-- Where a pressure lies. -/
theorem press_in {p : Nat → Int × Int} {n : Nat} (ok : OkP p n) (x : Int) : (pressV p n x).1 ≤ (pressV p n x).2 ∧ (pressV p n x).2 ≤ (pressV p n x).1 + 1 ∧ 0 ≤ (pressV p n x).1 ∧ (pressV p n x).2 ≤ 2199023255552 ∧
    (placeV p n x < n → (p (placeV p n x)).2 ≤ (pressV p n x).1) ∧ (0 < placeV p n x → (pressV p n x).2 ≤ (p (placeV p n x - 1)).2) := by
  have h1 := ok.lo
  have r0 := ok.rg 0 (by omega)
  have rn := ok.rg (n - 1) (by omega)
  rcases press_at ok x with ⟨e1, e2⟩ | ⟨e1, e2⟩ | ⟨g1, g2, q, r, sg, e2⟩
  · rw [e2, e1]; dsimp only
    exact ⟨by omega, by omega, by omega, by omega, fun _ => by omega, fun h => by omega⟩
  · rw [e2, e1]; dsimp only
    exact ⟨by omega, by omega, by omega, by omega, fun h => by omega, fun _ => by omega⟩
  · have ra := ok.rg (placeV p n x - 1) (by omega)
    have rb := ok.rg (placeV p n x) g2
    have l1 := sg.lo
    have l2 := sg.lo2
    have q0 := sg.q0
    rw [e2]
    dsimp only
    split
    · rename_i hr
      have := l2 hr
      exact ⟨by omega, by omega, by omega, by omega, fun _ => by omega, fun _ => by omega⟩
    · exact ⟨by omega, by omega, by omega, by omega, fun _ => by omega, fun _ => by omega⟩
theorem press_mono {p : Nat → Int × Int} {n : Nat} (ok : OkP p n) {x y : Int} (h : x ≤ y) : (pressV p n y).1 ≤ (pressV p n x).1 ∧ (pressV p n y).2 ≤ (pressV p n x).2 := by
  have hm : placeV p n x ≤ placeV p n y := place_mono h
  have hy := place_le p n y
  have ix := press_in ok x
  have iy := press_in ok y
  by_cases he : placeV p n x = placeV p n y
  · rcases press_at ok x with ⟨e1, e2⟩ | ⟨e1, e2⟩ | ⟨g1, g2, q, r, sg, e2⟩
    · rcases press_at ok y with ⟨e3, e4⟩ | ⟨e3, e4⟩ | ⟨g3, _⟩
      · rw [e2, e4]; exact ⟨Int.le_refl _, Int.le_refl _⟩
      · have := ok.lo; omega
      · omega
    · rcases press_at ok y with ⟨e3, e4⟩ | ⟨e3, e4⟩ | ⟨_, g3, _⟩
      · have := ok.lo; omega
      · rw [e2, e4]; exact ⟨Int.le_refl _, Int.le_refl _⟩
      · omega
    · rcases press_at ok y with ⟨e3, _⟩ | ⟨e3, _⟩ | ⟨_, _, q', r', sg', e4⟩
      · omega
      · omega
      · rw [← he] at sg' e4
        rw [e2, e4]
        dsimp only
        have w0 := sg.rl
        have k1 := sg.eq
        have k2 := sg'.eq
        have r1 := sg.r0
        have r2 := sg'.r0
        have r3 := sg'.rl
        have d0 := (ok.dn _ g1 g2).2
        have km : ((p (placeV p n x - 1)).2 - (p (placeV p n x)).2) * (x - (p (placeV p n x - 1)).1) ≤ ((p (placeV p n x - 1)).2 - (p (placeV p n x)).2) * (y - (p (placeV p n x - 1)).1) := Int.mul_le_mul_of_nonneg_left (by omega) (by omega)
        rw [k1, k2] at km
        have hq : q ≤ q' := by
          rcases (show q' < q ∨ q ≤ q' by omega) with hlt | hge
          · have hge' : q' + 1 ≤ q := by omega
            have := Int.mul_le_mul_of_nonneg_left hge' (show 0 ≤ (p (placeV p n x)).1 - (p (placeV p n x - 1)).1 by omega)
            rw [Int.mul_add, Int.mul_one] at this
            omega
          · exact hge
        have hqr : q = q' → r ≤ r' := fun e => by rw [e] at km; omega
        refine ⟨?_, by omega⟩
        by_cases e : q = q'
        · have := hqr e
          repeat' split
          all_goals omega
        · repeat' split
          all_goals omega
  · have hlt : placeV p n x < placeV p n y := by omega
    have a1 := ix.2.2.2.2.1 (by omega)
    have a2 := iy.2.2.2.2.2 (by omega)
    have a3 := dn_all ok (placeV p n y - 1 - placeV p n x) (placeV p n x) (by omega)
    have e : placeV p n x + (placeV p n y - 1 - placeV p n x) = placeV p n y - 1 := by omega
    rw [e] at a3
    omega
end Go.Proofs.Ytombbbbgkjapcaa.Ab
