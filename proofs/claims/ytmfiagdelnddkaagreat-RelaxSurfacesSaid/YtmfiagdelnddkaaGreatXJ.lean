/- Stage 11: the document's Check and Flows. -/
import Derived.Test.YtmfiagdelnddkaaGreatXH
import Derived.Test.YtmfiagdelnddkaaGreatXI
import Derived.Test.YtmfiagdelnddkaaGreatXC
namespace Go.Proofs.YtmfiagdelnddkaaGreat.Ab
noncomputable section
open Go
theorem alf {A B : Type} {o : Option A} {x : A} {f : A → DT B} {Q : B → Prop} (h : o = some x) (q : ∃ y, (f x).get = some y ∧ Q y) : ∃ y, (DT.bind o f).get = some y ∧ Q y := by
  rw [get_bind h]; exact q
def Rng (l : Sq Int) : Prop := ∀ k, k < l.n → -70368744177664 ≤ l.f k ∧ l.f k ≤ 70368744177664
open Classical in
def gQ (Q : Nat → Prop) (i : Nat) : Option Unit := if Q i then none else some ()
theorem afc {Q : Nat → Prop} {n : Nat} (h : ∀ i, i < n → Q i) : aR (gQ Q) n 0 = none := by
  cases e : aR (gQ Q) n 0 with
  | none => rfl
  | some u =>
    obtain ⟨j, _, hj, g, _⟩ := yV e
    unfold gQ at g
    rw [if_pos (h j (by omega))] at g
    cases g
theorem afd {Q : Nat → Prop} {n : Nat} (h : ¬ ∀ i, i < n → Q i) : aR (gQ Q) n 0 = some () := by
  cases e : aR (gQ Q) n 0 with
  | some u => rfl
  | none =>
    refine absurd (fun i hi => ?_) h
    have := jf e i (Nat.zero_le _) (by omega)
    unfold gQ at this
    split at this
    · assumption
    · cases this
theorem agH (l : Sq Int) (h : l.n ≤ 64) : ∃ b, Ni l = some b ∧ (b = true ↔ Rng l) := by
  have e : Eb l 0 = some (sumO (aR (gQ fun i => -70368744177664 ≤ l.f i ∧ l.f i ≤ 70368744177664) l.n 0)) := by
    rw [TF, ← jV]
    refine aX (step := fun v => lT l v) (gQ fun i => -70368744177664 ≤ l.f i ∧ l.f i ≤ 70368744177664) (fun i hi => ?_) ?_ l.n 0 (Nat.zero_add _)
    · unfold lT gQ
      rw [aA (dlt hi), aA (dix hi), aF, aQ (by omega)]
      by_cases c : l.f i < -70368744177664
      · rw [aA (decide_eq_true c), if_neg (by omega)]; rfl
      · rw [aD (decide_eq_false c), aA (dix hi)]
        by_cases c2 : l.f i > 70368744177664
        · rw [aA (decide_eq_true c2), if_neg (by omega)]; rfl
        · rw [aD (decide_eq_false c2), if_pos (by omega)]; rfl
    · unfold lT
      rw [aD (dge (Nat.le_refl _))]; rfl
  rw [Y9]; unfold Gt
  by_cases c : Rng l
  · rw [afc c] at e
    rw [aI e]
    exact ⟨true, rfl, fun _ => c, fun _ => rfl⟩
  · rw [afd c] at e
    rw [aI e]
    exact ⟨false, rfl, fun h => by (cases h), fun h => absurd h c⟩
def Zt (a : SAir) (s : au) (L H : Sq Int) (i : Nat) : Prop :=
  ((a.Mine.Places.f i).Surface = true ∨ ¬ Aw a.Mine i → L.f i = 0 ∧ H.f i = 0) ∧ (¬ ((a.Mine.Places.f i).Surface = true ∨ ¬ Aw a.Mine i) → 0 ≤ NL a s H i (H.f i) ∧ NH a s L i (L.f i) ≤ 0)
open Classical in
def FY (a : SAir) (s : au) (b : bM) : Int :=
  if airE a ≠ 0 then airE a else if aZ a s = false then 21 else if b.Low.n ≠ a.Mine.Places.n then 11 else if b.High.n ≠ a.Mine.Places.n then 11
  else if ¬ Rng b.Low then 1 else if ¬ Rng b.High then 1 else if ∀ i, i < a.Mine.Places.n → Zt a s b.Low b.High i then 0 else 12
theorem ail {a : SAir} {s : au} {b : bM} (h : FY a s b = 0) : aZ a s = true ∧ aa6 a s b.Low b.High := by
  unfold FY at h
  split at h
  · rename_i c; exact absurd h c
  · split at h
    · cases h
    · rename_i h2
      have h2 : aZ a s = true := by simpa using h2
      split at h
      · cases h
      · rename_i h3
        split at h
        · cases h
        · rename_i h4
          split at h
          · cases h
          · rename_i h5
            split at h
            · cases h
            · rename_i h6
              split at h
              · rename_i h7
                refine ⟨h2, aW h2, Classical.not_not.1 h3, Classical.not_not.1 h4, Classical.not_not.1 h5, Classical.not_not.1 h6, fun i hi q => (h7 i hi).1 q, fun i hi ns aw => (h7 i hi).2 fun q => q.elim (fun e => by rw [ns] at e; cases e) fun n => n aw⟩
              · cases h
theorem aa6.at {a : SAir} {s : au} {L H : Sq Int} (h : aa6 a s L H) {i : Nat} (hi : i < a.Mine.Places.n) : Zt a s L H i := by
  refine ⟨h.z i hi, fun n => h.u i hi ?_ ?_⟩
  · cases e : (a.Mine.Places.f i).Surface with
    | false => rfl
    | true => exact absurd (.inl e) n
  · exact Classical.byContradiction fun q => n (.inr q)
theorem ae6 {a : SAir} {s : au} {b : bM} (rt : aZ a s = true) (ln : b.Low.n = a.Mine.Places.n) (hn : b.High.n = a.Mine.Places.n) (lr : Rng b.Low) (hr : Rng b.High) (h : ∀ i, i < a.Mine.Places.n → Zt a s b.Low b.High i) : FY a s b = 0 := by
  unfold FY
  rw [if_neg (not_not_intro (Da rt)), if_neg (by rw [rt]; simp), if_neg (not_not_intro ln), if_neg (not_not_intro hn), if_neg (not_not_intro lr), if_neg (not_not_intro hr), if_pos h]
open Classical in
def akH (a : SAir) (s : au) (b : bM) (j : Nat) : aK :=
  if (a.Mine.Roads.f j).Closed = true then ⟨0, 0⟩ else if Aw a.Mine (a.Mine.Roads.f j).From then
    ⟨flL a s j (b.Low.f (a.Mine.Roads.f j).From.toNat - b.High.f (a.Mine.Roads.f j).To.toNat), flH a s j (b.High.f (a.Mine.Roads.f j).From.toNat - b.Low.f (a.Mine.Roads.f j).To.toNat)⟩ else ⟨-1125899906842624, 1125899906842624⟩
end
end Go.Proofs.YtmfiagdelnddkaaGreat.Ab
