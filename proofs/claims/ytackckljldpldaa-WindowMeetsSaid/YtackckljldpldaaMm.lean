/- Stage 6, the maths of Meet and Hull: they depend on which spans there are, not on their order. -/
import Derived.Test.YtackckljldpldaaHr
namespace Go.Proofs.Ytackckljldpldaa
open Go.RowKit

theorem meetL_1 (l : List (Int × Int)) : ∀ x y, x ≤ (meetL x y l).1 ∧ (∀ p ∈ l, p.1 ≤ (meetL x y l).1) ∧ ((meetL x y l).1 = x ∨ ∃ p ∈ l, (meetL x y l).1 = p.1) := by
  induction l with
  | nil => exact fun x y => ⟨Int.le_refl _, by simp, .inl rfl⟩
  | cons q l ih =>
    intro x y
    obtain ⟨h1, h2, h3⟩ := ih (max x q.1) (min y q.2)
    unfold meetL
    refine ⟨by omega, fun p hp => ?_, ?_⟩
    · rcases List.mem_cons.1 hp with rfl | hp
      · omega
      · exact h2 p hp
    · rcases h3 with h3 | ⟨p, hp, h3⟩
      · by_cases c : x ≤ q.1
        · exact .inr ⟨q, List.mem_cons_self .., by omega⟩
        · exact .inl (by omega)
      · exact .inr ⟨p, List.mem_cons_of_mem _ hp, h3⟩
theorem meetL_2 (l : List (Int × Int)) : ∀ x y, (meetL x y l).2 ≤ y ∧ (∀ p ∈ l, (meetL x y l).2 ≤ p.2) ∧ ((meetL x y l).2 = y ∨ ∃ p ∈ l, (meetL x y l).2 = p.2) := by
  induction l with
  | nil => exact fun x y => ⟨Int.le_refl _, by simp, .inl rfl⟩
  | cons q l ih =>
    intro x y
    obtain ⟨h1, h2, h3⟩ := ih (max x q.1) (min y q.2)
    unfold meetL
    refine ⟨by omega, fun p hp => ?_, ?_⟩
    · rcases List.mem_cons.1 hp with rfl | hp
      · omega
      · exact h2 p hp
    · rcases h3 with h3 | ⟨p, hp, h3⟩
      · by_cases c : y ≤ q.2
        · exact .inl (by omega)
        · exact .inr ⟨q, List.mem_cons_self .., by omega⟩
      · exact .inr ⟨p, List.mem_cons_of_mem _ hp, h3⟩
/-- What is met, by its members. -/
theorem meet_of {p : Int × Int} {l : List (Int × Int)} {M : Int × Int} (hM : meetL p.1 p.2 (p :: l) = M) : (∀ q ∈ p :: l, q.1 ≤ M.1 ∧ M.2 ≤ q.2) ∧ (∃ q ∈ p :: l, M.1 = q.1) ∧ (∃ q ∈ p :: l, M.2 = q.2) := by
  obtain ⟨_, a2, a3⟩ := meetL_1 (p :: l) p.1 p.2
  obtain ⟨_, b2, b3⟩ := meetL_2 (p :: l) p.1 p.2
  rw [hM] at a2 a3 b2 b3
  refine ⟨fun q hq => ⟨a2 q hq, b2 q hq⟩, ?_, ?_⟩
  · rcases a3 with h | h
    · exact ⟨p, List.mem_cons_self .., h⟩
    · exact h
  · rcases b3 with h | h
    · exact ⟨p, List.mem_cons_self .., h⟩
    · exact h
theorem meet_same {L L' : List (Int × Int)} (h : ∀ p, p ∈ L ↔ p ∈ L') : meetSp L = meetSp L' := by
  cases L with
  | nil =>
    cases L' with
    | nil => rfl
    | cons q l' => have := (h q).2 (List.mem_cons_self ..); cases this
  | cons p l =>
    cases L' with
    | nil => have := (h p).1 (List.mem_cons_self ..); cases this
    | cons q l' =>
      rw [meetSp_cons, meetSp_cons]
      obtain ⟨M, hM⟩ : ∃ M, meetL p.1 p.2 (p :: l) = M := ⟨_, rfl⟩
      obtain ⟨N, hN⟩ : ∃ N, meetL q.1 q.2 (q :: l') = N := ⟨_, rfl⟩
      obtain ⟨a1, ⟨a, ha, ea⟩, ⟨b, hb, eb⟩⟩ := meet_of hM
      obtain ⟨c1, ⟨c, hc, ec⟩, ⟨d, hd, ed⟩⟩ := meet_of hN
      have e1 := (c1 a ((h a).1 ha)).1
      have e2 := (c1 b ((h b).1 hb)).2
      have e3 := (a1 c ((h c).2 hc)).1
      have e4 := (a1 d ((h d).2 hd)).2
      rw [hM, hN]
      obtain ⟨M1, M2⟩ := M
      obtain ⟨N1, N2⟩ := N
      dsimp only at *
      obtain rfl : M1 = N1 := by omega
      obtain rfl : M2 = N2 := by omega
      rfl
theorem meet_in {L : List (Int × Int)} {v : Int} (hv : -1000000 ≤ v ∧ v ≤ 1000000) : ((meetSp L).2 = true → ((∀ p ∈ L, p.1 ≤ v ∧ v ≤ p.2) ↔ ((meetSp L).1.1 ≤ v ∧ v ≤ (meetSp L).1.2))) ∧ ((meetSp L).2 = false → ¬ ∀ p ∈ L, p.1 ≤ v ∧ v ≤ p.2) := by
  cases L with
  | nil =>
    unfold meetSp nothingSp
    refine ⟨fun _ => ⟨fun _ => by dsimp only; omega, fun _ => by simp⟩, fun h => (by cases h)⟩
  | cons p l =>
    rw [meetSp_cons]
    obtain ⟨M, hM⟩ : ∃ M, meetL p.1 p.2 (p :: l) = M := ⟨_, rfl⟩
    obtain ⟨a1, ⟨a, ha, ea⟩, ⟨b, hb, eb⟩⟩ := meet_of hM
    rw [hM]
    by_cases c : M.2 < M.1
    · rw [if_pos c]
      refine ⟨fun h => (by cases h), fun _ hall => ?_⟩
      have h1 := (hall a ha).1
      have h2 := (hall b hb).2
      omega
    · rw [if_neg c]
      refine ⟨fun _ => ⟨fun hall => ?_, fun hv q hq => ?_⟩, fun h => (by cases h)⟩
      · have h1 := (hall a ha).1
        have h2 := (hall b hb).2
        dsimp only; omega
      · have := a1 q hq
        dsimp only at hv; omega
theorem hullL_1 (l : List (Int × Int)) (hs : ∀ p ∈ l, p.1 ≤ p.2) : ∀ x y, (hullL x y l).1 ≤ x ∧ (∀ p ∈ l, (hullL x y l).1 ≤ p.1) ∧ ((hullL x y l).1 = x ∨ ∃ p ∈ l, (hullL x y l).1 = p.1) := by
  induction l with
  | nil => exact fun x y => ⟨Int.le_refl _, by simp, .inl rfl⟩
  | cons q l ih =>
    intro x y
    have hq := hs q (List.mem_cons_self ..)
    obtain ⟨h1, h2, h3⟩ := ih (fun p hp => hs p (List.mem_cons_of_mem _ hp)) (min x q.1) (max y q.2)
    unfold hullL
    rw [if_neg (by omega)]
    refine ⟨by omega, fun p hp => ?_, ?_⟩
    · rcases List.mem_cons.1 hp with rfl | hp
      · omega
      · exact h2 p hp
    · rcases h3 with h3 | ⟨p, hp, h3⟩
      · by_cases c : x ≤ q.1
        · exact .inl (by omega)
        · exact .inr ⟨q, List.mem_cons_self .., by omega⟩
      · exact .inr ⟨p, List.mem_cons_of_mem _ hp, h3⟩
theorem hullL_2 (l : List (Int × Int)) (hs : ∀ p ∈ l, p.1 ≤ p.2) : ∀ x y, y ≤ (hullL x y l).2 ∧ (∀ p ∈ l, p.2 ≤ (hullL x y l).2) ∧ ((hullL x y l).2 = y ∨ ∃ p ∈ l, (hullL x y l).2 = p.2) := by
  induction l with
  | nil => exact fun x y => ⟨Int.le_refl _, by simp, .inl rfl⟩
  | cons q l ih =>
    intro x y
    have hq := hs q (List.mem_cons_self ..)
    obtain ⟨h1, h2, h3⟩ := ih (fun p hp => hs p (List.mem_cons_of_mem _ hp)) (min x q.1) (max y q.2)
    unfold hullL
    rw [if_neg (by omega)]
    refine ⟨by omega, fun p hp => ?_, ?_⟩
    · rcases List.mem_cons.1 hp with rfl | hp
      · omega
      · exact h2 p hp
    · rcases h3 with h3 | ⟨p, hp, h3⟩
      · by_cases c : y ≤ q.2
        · exact .inr ⟨q, List.mem_cons_self .., by omega⟩
        · exact .inl (by omega)
      · exact .inr ⟨p, List.mem_cons_of_mem _ hp, h3⟩
theorem hull_same {L L' : List (Int × Int)} (hs : ∀ p ∈ L, p.1 ≤ p.2) (h : ∀ p, p ∈ L ↔ p ∈ L') : hullSp L = hullSp L' := by
  obtain ⟨a1, a2, a3⟩ := hullL_1 L hs 9223372036854775807 (-9223372036854775808)
  obtain ⟨b1, b2, b3⟩ := hullL_2 L hs 9223372036854775807 (-9223372036854775808)
  have hs' : ∀ p ∈ L', p.1 ≤ p.2 := fun p hp => hs p ((h p).2 hp)
  obtain ⟨c1, c2, c3⟩ := hullL_1 L' hs' 9223372036854775807 (-9223372036854775808)
  obtain ⟨d1, d2, d3⟩ := hullL_2 L' hs' 9223372036854775807 (-9223372036854775808)
  unfold hullSp
  obtain ⟨M, hM⟩ : ∃ M, hullL 9223372036854775807 (-9223372036854775808) L = M := ⟨_, rfl⟩
  obtain ⟨N, hN⟩ : ∃ N, hullL 9223372036854775807 (-9223372036854775808) L' = N := ⟨_, rfl⟩
  rw [hM] at a1 a2 a3 b1 b2 b3
  rw [hN] at c1 c2 c3 d1 d2 d3
  rw [hM, hN]
  have e1 : M.1 ≤ N.1 := by
    rcases c3 with e | ⟨q, hq, e⟩
    · omega
    · have := a2 q ((h q).2 hq); omega
  have e2 : N.1 ≤ M.1 := by
    rcases a3 with e | ⟨q, hq, e⟩
    · omega
    · have := c2 q ((h q).1 hq); omega
  have e3 : M.2 ≤ N.2 := by
    rcases b3 with e | ⟨q, hq, e⟩
    · omega
    · have := d2 q ((h q).1 hq); omega
  have e4 : N.2 ≤ M.2 := by
    rcases d3 with e | ⟨q, hq, e⟩
    · omega
    · have := b2 q ((h q).2 hq); omega
  obtain ⟨M1, M2⟩ := M
  obtain ⟨N1, N2⟩ := N
  dsimp only at *
  obtain rfl : M1 = N1 := by omega
  obtain rfl : M2 = N2 := by omega
  rfl
theorem hull_has {L : List (Int × Int)} (hs : ∀ p ∈ L, p.1 ≤ p.2) : ∀ p ∈ L, (hullSp L).1 ≤ p.1 ∧ p.2 ≤ (hullSp L).2 := by
  intro p hp
  obtain ⟨_, a2, _⟩ := hullL_1 L hs 9223372036854775807 (-9223372036854775808)
  obtain ⟨_, b2, _⟩ := hullL_2 L hs 9223372036854775807 (-9223372036854775808)
  have h1 := a2 p hp
  have h2 := b2 p hp
  have h3 := hs p hp
  unfold hullSp
  rw [if_neg (by omega)]
  exact ⟨h1, h2⟩
end Go.Proofs.Ytackckljldpldaa
