/- Bytes in pieces: Feed of a beginning, and then of what is left with what comes. -/
import Derived.Test.YtolkjklejcealaaLr
namespace Go.Proofs.Ytolkjklejcealaa

theorem getD_app {p c : List Nat} {i : Nat} (h : i < p.length) : (p ++ c).getD i 0 = p.getD i 0 := by
  rw [List.getD_eq_getElem?_getD, List.getElem?_append_left h, ← List.getD_eq_getElem?_getD]
theorem part_app {p c : List Nat} {i m : Nat} (h : i + m ≤ p.length) : ((p ++ c).drop i).take m = (p.drop i).take m := by
  rw [List.drop_append_of_le_length (by omega), List.take_append_of_le_length (by rw [List.length_drop]; omega)]
/-- What was decided at the front stays so, whatever comes behind. -/
theorem act4_drop_app {p c : List Nat} (h : act4 p = .drop) : act4 (p ++ c) = .drop := by
  have h0 : p ≠ [] := by rintro rfl; rw [act4_nil] at h; cases h
  have hp := List.length_pos_iff.2 h0
  rcases act4_parts p hp with ⟨p0, _⟩ | ⟨_, _, q⟩ | ⟨p0, p1, p2, _⟩ | ⟨_, _, _, _, q⟩ | ⟨p0, p1, p2, ⟨p3, _⟩ | ⟨_, q⟩⟩
  · unfold act4
    rw [if_neg (by simp [h0]), getD_app hp, if_pos p0]
  · rw [q] at h; cases h
  · unfold act4
    rw [if_neg (by simp [h0]), getD_app hp, if_neg (by omega), if_neg (by rw [List.length_append]; omega), getD_app p1, if_pos p2]
  · rw [q] at h; cases h
  · unfold act4
    rw [if_neg (by simp [h0]), getD_app hp, if_neg (by omega), if_neg (by rw [List.length_append]; omega), getD_app (show 1 < p.length by omega), if_neg (by omega), if_neg (by rw [List.length_append]; omega),
      part_app (by omega), getD_app (by omega), getD_app (by omega), if_neg p3]
  · rw [q] at h; cases h
theorem act4_take_app {p c : List Nat} {f : Fr} {n : Nat} (h : act4 p = .take f n) : act4 (p ++ c) = .take f n := by
  obtain ⟨e1, e2, e3, e4, e5, e6⟩ := act4_take h
  have h0 : p ≠ [] := by rintro rfl; rw [act4_nil] at h; cases h
  have hp := List.length_pos_iff.2 h0
  unfold act4
  rw [if_neg (by simp [h0]), getD_app hp, if_neg (by omega), if_neg (by rw [List.length_append]; omega), getD_app (show 1 < p.length by omega), if_neg (by omega), if_neg (by rw [List.length_append]; omega),
    part_app (by omega), getD_app (by omega), getD_app (by omega), if_pos e6, getD_app (by omega), getD_app (by omega), part_app (by omega), e5, e1]
theorem feed_app (c : List Nat) : ∀ (k : Nat) (p : List Nat), p.length ≤ k → feed (p ++ c) = ((feed p).1 ++ (feed ((feed p).2.2 ++ c)).1, (feed p).2.1 + (feed ((feed p).2.2 ++ c)).2.1, (feed ((feed p).2.2 ++ c)).2.2) := by
  intro k
  induction k with
  | zero =>
    intro p hp
    obtain rfl : p = [] := List.eq_nil_of_length_eq_zero (by omega)
    have e : feed [] = ([], 0, []) := rfl
    rw [e]
    simp
  | succ k ih =>
    intro p hp
    cases h : act4 p with
    | stop =>
      rw [feed_stop h]
      simp
    | drop =>
      have h0 : p ≠ [] := by rintro rfl; rw [act4_nil] at h; cases h
      have hpl := List.length_pos_iff.2 h0
      rw [feed_drop h, feed_drop (act4_drop_app h), List.drop_append_of_le_length (by omega), ih (p.drop 1) (by rw [List.length_drop]; omega)]
      simp only
      refine Prod.ext rfl (Prod.ext ?_ rfl)
      show _ + _ + 1 = _ + 1 + _
      omega
    | take f n =>
      obtain ⟨e1, e2, _⟩ := act4_take h
      rw [feed_take h, feed_take (act4_take_app h), List.drop_append_of_le_length (by omega), ih (p.drop n) (by rw [List.length_drop]; omega)]
      simp
/-- What is held is less than a whole telegram. -/
theorem feed_held : ∀ (k : Nat) (l : List Nat), l.length ≤ k → (feed l).2.2.length < 70 := by
  intro k
  induction k with
  | zero =>
    intro l hl
    obtain rfl : l = [] := List.eq_nil_of_length_eq_zero (by omega)
    decide
  | succ k ih =>
    intro l hl
    cases h : act4 l with
    | stop =>
      rw [feed_stop h]
      by_cases h0 : l = []
      · subst h0; decide
      have hp := List.length_pos_iff.2 h0
      rcases act4_parts l hp with ⟨_, q⟩ | ⟨_, p1, _⟩ | ⟨_, _, _, q⟩ | ⟨_, _, p2, p3, _⟩ | ⟨_, _, _, ⟨_, q⟩ | ⟨_, q⟩⟩
      · rw [q] at h; cases h
      · show l.length < 70
        omega
      · rw [q] at h; cases h
      · show l.length < 70
        omega
      · rw [q] at h; cases h
      · rw [q] at h; cases h
    | drop =>
      have h0 : l ≠ [] := by rintro rfl; rw [act4_nil] at h; cases h
      have hpl := List.length_pos_iff.2 h0
      rw [feed_drop h]
      exact ih _ (by rw [List.length_drop]; omega)
    | take f n =>
      obtain ⟨e1, e2, _⟩ := act4_take h
      rw [feed_take h]
      exact ih _ (by rw [List.length_drop]; omega)
end Go.Proofs.Ytolkjklejcealaa
