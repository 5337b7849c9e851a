/- Stage 12: Accepted. -/
import Derived.Test.YtmfiagdelnddkaaGreatTE
import Derived.Test.YtmfiagdelnddkaaGreatXH
import Derived.Test.YtmfiagdelnddkaaGreatXlh
import Derived.Test.YtmfiagdelnddkaaGreatXkk
namespace Go.Proofs.YtmfiagdelnddkaaGreat.Ab
open Go
theorem afp (codes : Sq Int) (hb : ∀ k, 0 ≤ codes.f k ∧ codes.f k ≤ 255) : (oM codes).get = some true := by
  obtain ⟨c, e0, hc⟩ := X7 codes hb
  obtain ⟨a, s, x, b, e1, b0, b1, md⟩ := rQ hc
  have np := md.np
  have n1 := md.n1
  have rt := md.right
  obtain ⟨pn, _⟩ := md.lens
  unfold oM
  rw [get_bind e0, get_bind e1]
  dsimp only
  rw [get_bind (X9 a s (by omega) (by omega))]
  rcases Zm rt with h | h
  · obtain ⟨z, le⟩ := Zl h
    obtain ⟨_, acc⟩ := ail z
    have fit := md.fit
    have bd := adS h
    have ln := bd.l.n
    have hn := bd.h.n
    obtain ⟨t, et, tn, ht⟩ := aa7 acc.r.m
    have key : uP x.Pressures (gZ a s).1.Low (gZ a s).1.High t 0 = some (.inl ()) := by
      rw [F7]
      refine (aX (step := fun v => fq x.Pressures (gZ a s).1.Low (gZ a s).1.High t v) (n := x.Pressures.n) (fun _ => none) (fun i hi => ?_) ?_ x.Pressures.n 0 (Nat.zero_add _)).trans ?_
      · unfold fq
        have l1 := le i
        rw [aA (dlt hi), aA (dix hi), aA (dix (by omega)), aA (dix (by omega)), aF, aQ (by omega), aD (decide_eq_false (by omega)), aA (dix (by omega))]
        by_cases c : t.f i = true
        · have aw := (ht i (by omega)).1 c
          have a1 := acc.above fit i (by omega) aw
          have a2 := acc.below fit i (by omega) aw
          rw [aA c, aA (dix (by omega)), aD (decide_eq_false (by omega)), aA (dix (by omega)), aD (decide_eq_false (by omega))]; rfl
        · rw [aD (by simpa using c)]; rfl
      · unfold fq
        rw [aD (dge (Nat.le_refl _))]; rfl
      · rw [dx fun _ _ _ => rfl]
    rw [h, aD (show ((0 : Int) != 0) = false from rfl), get_bind (L8 a s _ (by omega)), z, aD (show ((0 : Int) != 0) = false from rfl), aD (by rw [ln, pn]; simp), aD (by rw [hn, pn]; simp), get_bind et, aI key]
    dsimp only [Sum.elim]
    rw [get_bind jm]; rfl
  · rw [h]
    dsimp only
    rw [aA (show ((2 : Int) != 0) = true from rfl), aA (show ((2 : Int) == 2) = true from rfl), get_bind jm]; rfl
end Go.Proofs.YtmfiagdelnddkaaGreat.Ab
