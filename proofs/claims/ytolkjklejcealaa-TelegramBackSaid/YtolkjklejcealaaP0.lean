/- Feed as a pure function over lists. -/
import Derived.Test.YtolkjklejcealaaSa
namespace Go.Proofs.Ytolkjklejcealaa

/-- What is done at the front of bytes. -/
inductive Act4 where
  | stop
  | drop
  | take (f : Fr) (n : Nat)
def act4 (l : List Nat) : Act4 :=
  if l = [] then .stop
  else if l.getD 0 0 ≠ 126 then .drop
  else if l.length = 1 then .stop
  else if 64 < l.getD 1 0 then .drop
  else if l.length < 6 + l.getD 1 0 then .stop
  else if crcOf 65535 ((l.drop 1).take (3 + l.getD 1 0)) = l.getD (4 + l.getD 1 0) 0 * 256 + l.getD (5 + l.getD 1 0) 0 then
    .take ⟨l.getD 2 0, l.getD 3 0, (l.drop 4).take (l.getD 1 0)⟩ (6 + l.getD 1 0)
  else .drop
def feedN : Nat → List Nat → List Fr × Nat × List Nat
  | 0, l => ([], 0, l)
  | k + 1, l => match act4 l with
    | .stop => ([], 0, l)
    | .drop => ((feedN k (l.drop 1)).1, (feedN k (l.drop 1)).2.1 + 1, (feedN k (l.drop 1)).2.2)
    | .take f n => (f :: (feedN k (l.drop n)).1, (feedN k (l.drop n)).2.1, (feedN k (l.drop n)).2.2)
def feed (l : List Nat) : List Fr × Nat × List Nat := feedN l.length l
theorem act4_nil : act4 [] = .stop := by simp [act4]
theorem act4_take {l : List Nat} {f : Fr} {n : Nat} (h : act4 l = .take f n) : n = 6 + l.getD 1 0 ∧ n ≤ l.length ∧ l.getD 1 0 ≤ 64 ∧ l.getD 0 0 = 126 ∧ f = ⟨l.getD 2 0, l.getD 3 0, (l.drop 4).take (l.getD 1 0)⟩ ∧
    crcOf 65535 ((l.drop 1).take (3 + l.getD 1 0)) = l.getD (4 + l.getD 1 0) 0 * 256 + l.getD (5 + l.getD 1 0) 0 := by
  unfold act4 at h
  by_cases h1 : l = []
  · simp [h1] at h
  rw [if_neg h1] at h
  by_cases h2 : l.getD 0 0 ≠ 126
  · rw [if_pos h2] at h; cases h
  rw [if_neg h2] at h
  by_cases h3 : l.length = 1
  · rw [if_pos h3] at h; cases h
  rw [if_neg h3] at h
  by_cases h4 : 64 < l.getD 1 0
  · rw [if_pos h4] at h; cases h
  rw [if_neg h4] at h
  by_cases h5 : l.length < 6 + l.getD 1 0
  · rw [if_pos h5] at h; cases h
  rw [if_neg h5] at h
  by_cases h6 : crcOf 65535 ((l.drop 1).take (3 + l.getD 1 0)) = l.getD (4 + l.getD 1 0) 0 * 256 + l.getD (5 + l.getD 1 0) 0
  · rw [if_pos h6] at h
    injection h with e1 e2
    subst e1 e2
    exact ⟨rfl, by omega, by omega, by simpa using h2, rfl, h6⟩
  · rw [if_neg h6] at h; cases h
theorem feedN_more : ∀ (k : Nat) (l : List Nat), l.length ≤ k → feedN (k + 1) l = feedN k l := by
  intro k
  induction k with
  | zero =>
    intro l hl
    obtain rfl : l = [] := List.eq_nil_of_length_eq_zero (by omega)
    rfl
  | succ k ih =>
    intro l hl
    rw [feedN]
    conv => rhs; rw [feedN]
    cases h : act4 l with
    | stop => rfl
    | drop =>
      simp only
      by_cases h0 : l = []
      · subst h0; rw [act4_nil] at h; cases h
      have : 0 < l.length := List.length_pos_iff.2 h0
      rw [ih _ (by rw [List.length_drop]; omega)]
    | take f n =>
      simp only
      have := act4_take h
      rw [ih _ (by rw [List.length_drop]; omega)]
theorem feedN_feed {k : Nat} {l : List Nat} (h : l.length ≤ k) : feedN k l = feed l := by
  unfold feed
  induction h with
  | refl => rfl
  | step h ih => rw [feedN_more _ _ h, ih]
theorem feed_stop {l : List Nat} (h : act4 l = .stop) : feed l = ([], 0, l) := by
  unfold feed
  cases l with
  | nil => rfl
  | cons x l => rw [List.length_cons, feedN, h]
theorem feed_drop {l : List Nat} (h : act4 l = .drop) : feed l = ((feed (l.drop 1)).1, (feed (l.drop 1)).2.1 + 1, (feed (l.drop 1)).2.2) := by
  cases l with
  | nil => rw [act4_nil] at h; cases h
  | cons x l =>
    have e : feed (x :: l) = feedN (l.length + 1) (x :: l) := rfl
    rw [e, feedN, h]
    simp only [List.drop_one, List.tail_cons]
    rfl
theorem feed_take {l : List Nat} {f : Fr} {n : Nat} (h : act4 l = .take f n) : feed l = (f :: (feed (l.drop n)).1, (feed (l.drop n)).2.1, (feed (l.drop n)).2.2) := by
  have hn := act4_take h
  cases l with
  | nil => rw [act4_nil] at h; cases h
  | cons x l =>
    have e : feed (x :: l) = feedN (l.length + 1) (x :: l) := rfl
    rw [e, feedN, h]
    simp only
    rw [feedN_feed (by rw [List.length_drop, List.length_cons]; omega)]
/-- The sanity check's telegram is found. -/
theorem feed_awake : feed ([9] ++ (wrFr ⟨3, 1, [4, 5]⟩).1) = ([⟨3, 1, [4, 5]⟩], 1, []) := by kernel_rfl
end Go.Proofs.Ytolkjklejcealaa
