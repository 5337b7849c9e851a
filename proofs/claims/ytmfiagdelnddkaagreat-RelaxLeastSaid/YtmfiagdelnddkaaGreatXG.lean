/- Stage 11, maths: bounds that are accepted hold each state that fits (numbers only). -/
import Derived.Test.YtmfiagdelnddkaaGreatXA
namespace Go.Proofs.YtmfiagdelnddkaaGreat.Ab
open Go
theorem aeW {g : Nat → Int} : ∀ {n : Nat}, (∀ i, i < n → g i ≤ 0) → sumN g n ≤ 0 := by
  intro n h
  have := Rw (g := g) (g' := fun _ => 0) (n := n) h
  rw [NQ] at this
  exact this
theorem ai1 {g : Nat → Int} : ∀ {n : Nat}, (∀ i, i < n → g i ≤ 0) → (∃ i, i < n ∧ g i < 0) → sumN g n < 0 := by
  intro n
  induction n with
  | zero => rintro _ ⟨i, hi, _⟩; omega
  | succ n ih =>
    rintro h ⟨i, hi, hl⟩
    show sumN g n + g n < 0
    have hn := h n (by omega)
    by_cases c : i = n
    · subst c
      have := aeW (g := g) (n := i) fun j hj => h j (by omega)
      omega
    · have := ih (fun j hj => h j (by omega)) ⟨i, by omega, hl⟩
      omega
theorem Zo {g : Nat → Int} : ∀ {n : Nat}, (∀ i, i < n → 0 ≤ g i) → 0 ≤ sumN g n := by
  intro n h
  have := Rw (g := fun _ => 0) (g' := g) (n := n) h
  rw [NQ] at this
  exact this
theorem ak1 (e : Nat → Int) (A : Nat → Prop) : ∀ n, (∃ i, i < n ∧ A i) → ∃ i, i < n ∧ A i ∧ ∀ j, j < n → A j → e j ≤ e i := by
  intro n
  induction n with
  | zero => rintro ⟨i, hi, _⟩; omega
  | succ n ih =>
    rintro ⟨i, hi, ha⟩
    by_cases c : ∃ i, i < n ∧ A i
    · obtain ⟨k, hk, ak, mk⟩ := ih c
      by_cases an : A n ∧ e k < e n
      · refine ⟨n, by omega, an.1, fun j hj aj => ?_⟩
        by_cases q : j = n
        · subst q; omega
        · have := mk j (by omega) aj; omega
      · refine ⟨k, by omega, ak, fun j hj aj => ?_⟩
        by_cases q : j = n
        · subst q
          have : ¬ e k < e j := fun z => an ⟨aj, z⟩
          omega
        · exact mk j (by omega) aj
    · have hin : i = n := by
        by_cases q : i = n
        · exact q
        · exact absurd ⟨i, by omega, ha⟩ c
      subst hin
      refine ⟨i, by omega, ha, fun j hj aj => ?_⟩
      by_cases q : j = i
      · subst q; omega
      · exact absurd ⟨j, by omega, aj⟩ c
def addR (o : Nat → Bool) (fr to : Nat → Nat) (u v : Nat → Int) (i r : Nat) : Int := if o r = true then (if fr r = i then u r else 0) + (if to r = i then -(v r) else 0) else 0
theorem aaR {n m : Nat} {fr to : Nat → Nat} {o : Nat → Bool} {e u v : Nat → Int} {A : Nat → Prop}
    (hfr : ∀ r, r < m → fr r < n) (hto : ∀ r, r < m → to r < n)
    (hA : ∀ r, r < m → o r = true → (A (fr r) ↔ A (to r)))
    (h0 : ∀ r, r < m → o r = true → u r ≤ v r)
    (h1 : ∀ r, r < m → o r = true → e (to r) < e (fr r) → u r < 0)
    (h2 : ∀ r, r < m → o r = true → e (fr r) < e (to r) → 0 < v r)
    (hs : ∀ i, i < n → A i → 0 < e i → 0 ≤ sumN (addR o fr to u v i) m)
    (hc : ∀ C : Nat → Prop, (∀ r, r < m → o r = true → (C (fr r) ↔ C (to r))) → ∀ i, i < n → A i → C i → ∃ j, j < n ∧ A j ∧ C j ∧ e j ≤ 0) :
    ∀ i, i < n → A i → e i ≤ 0 := by
  intro i0 hi0 a0
  obtain ⟨k, hk, ak, mk⟩ := ak1 e A n ⟨i0, hi0, a0⟩
  have mi := mk i0 hi0 a0
  rcases Int.lt_or_le 0 (e k) with hp | hp
  · exfalso
    have dec : ∀ i, Decidable (A i ∧ e i = e k) := fun i => Classical.propDecidable _
    let S : Nat → Prop := fun i => A i ∧ e i = e k
    have total : 0 ≤ sumN (fun i => sumN (fun r => if S i then addR o fr to u v i r else 0) m) n := Zo fun i hi => by
      by_cases c : S i
      · have : sumN (fun r => if S i then addR o fr to u v i r else 0) m = sumN (addR o fr to u v i) m := jo fun r _ => if_pos c
        rw [this]
        exact hs i hi c.1 (by rw [c.2]; exact hp)
      · have : sumN (fun r => if S i then addR o fr to u v i r else 0) m = sumN (fun _ => 0) m := jo fun r _ => if_neg c
        rw [this, NQ]
        exact Int.le_refl _
    rw [ahV] at total
    have each : ∀ r, r < m → sumN (fun i => if S i then addR o fr to u v i r else 0) n = if o r = true then (if S (fr r) then u r else 0) + (if S (to r) then -(v r) else 0) else 0 := fun r hr => by
      by_cases c : o r = true
      · rw [if_pos c]
        have e1 : sumN (fun i => if S i then addR o fr to u v i r else 0) n = sumN (fun i => (if S i ∧ fr r = i then u r else 0) + (if S i ∧ to r = i then -(v r) else 0)) n := jo fun i _ => by
          unfold addR
          rw [if_pos c]
          by_cases q : S i
          · rw [if_pos q]
            simp only [q, true_and]
          · rw [if_neg q, if_neg (fun z => q z.1), if_neg (fun z => q z.1)]; rfl
        rw [e1, acz, afy (k := fr r) (fun i _ ne => if_neg fun z => ne z.2.symm), afy (k := to r) (fun i _ ne => if_neg fun z => ne z.2.symm), if_pos (hfr r hr), if_pos (hto r hr)]
        simp only [and_true]
      · rw [if_neg c]
        have e1 : sumN (fun i => if S i then addR o fr to u v i r else 0) n = sumN (fun _ => 0) n := jo fun i _ => by
          unfold addR
          rw [if_neg c]
          split <;> rfl
        rw [e1, NQ]
    rw [jo (g' := fun r => if o r = true then (if S (fr r) then u r else 0) + (if S (to r) then -(v r) else 0) else 0) each] at total
    have le : ∀ r, r < m → (if o r = true then (if S (fr r) then u r else 0) + (if S (to r) then -(v r) else 0) else 0) ≤ 0 ∧ (o r = true → ¬ (S (fr r) ↔ S (to r)) → (if o r = true then (if S (fr r) then u r else 0) + (if S (to r) then -(v r) else 0) else 0) < 0) := fun r hr => by
      by_cases c : o r = true
      · have q0 := h0 r hr c
        have q1 := h1 r hr c
        have q2 := h2 r hr c
        have qa := hA r hr c
        rw [if_pos c]
        by_cases s1 : S (fr r)
        · by_cases s2 : S (to r)
          · rw [if_pos s1, if_pos s2]
            exact ⟨by omega, fun _ z => absurd ⟨fun _ => s2, fun _ => s1⟩ z⟩
          · rw [if_pos s1, if_neg s2]
            have at' := qa.1 s1.1
            have m2 := mk (to r) (hto r hr) at'
            have ne : e (to r) ≠ e k := fun z => s2 ⟨at', z⟩
            have e1 := s1.2
            have := q1 (by omega)
            exact ⟨by omega, fun _ _ => by omega⟩
        · by_cases s2 : S (to r)
          · rw [if_neg s1, if_pos s2]
            have at' := qa.2 s2.1
            have m2 := mk (fr r) (hfr r hr) at'
            have ne : e (fr r) ≠ e k := fun z => s1 ⟨at', z⟩
            have e1 := s2.2
            have := q2 (by omega)
            exact ⟨by omega, fun _ _ => by omega⟩
          · rw [if_neg s1, if_neg s2]
            exact ⟨by omega, fun _ z => absurd ⟨fun y => absurd y s1, fun y => absurd y s2⟩ z⟩
      · rw [if_neg c]
        exact ⟨Int.le_refl _, fun z => absurd z c⟩
    by_cases ex : ∃ r, r < m ∧ o r = true ∧ ¬ (S (fr r) ↔ S (to r))
    · obtain ⟨r, hr, hor, hn⟩ := ex
      have := ai1 (n := m) (fun r hr => (le r hr).1) ⟨r, hr, (le r hr).2 hor hn⟩
      omega
    · obtain ⟨j, hj, aj, sj, ej⟩ := hc S (fun r hr hor => Classical.byContradiction fun z => ex ⟨r, hr, hor, z⟩) k hk ak ⟨ak, rfl⟩
      have := sj.2
      omega
  · omega
end Go.Proofs.YtmfiagdelnddkaaGreat.Ab
