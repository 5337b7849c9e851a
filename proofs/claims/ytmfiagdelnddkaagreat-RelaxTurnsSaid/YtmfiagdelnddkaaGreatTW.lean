/- Stage 12: an air's error is never the one of a proof. -/
import Derived.Test.YtmfiagdelnddkaaGreatXL
namespace Go.Proofs.YtmfiagdelnddkaaGreat.Ab
open Go
theorem NZ {g : Nat → Option Int} (hg : ∀ i z, g i = some z → z ≠ 12) {n i : Nat} {z : Int} (h : aR g n i = some z) : z ≠ 12 := by
  obtain ⟨j, _, _, h3, _⟩ := yV h
  exact hg j z h3
theorem aga (r : aB) (p : Int) : Et r p ≠ 12 := by
  unfold Et
  repeat' (split; · decide)
  decide
theorem afW (m : aL) : SE m ≠ 12 := by
  unfold SE
  split
  · decide
  split
  · decide
  split
  · decide
  split
  · rename_i e
    refine NZ (fun i z h => ?_) e
    unfold gR at h
    split at h
    · cases h
    · injection h with h; subst h; exact aga _ _
  · decide
theorem ag5 (f : SFan) : fanE f ≠ 12 := by
  unfold fanE
  split
  · decide
  split
  · decide
  split
  · decide
  split
  · rename_i e
    refine NZ (fun i z h => ?_) e
    unfold gC at h
    split at h
    · injection h with h; omega
    · split at h
      · injection h with h; omega
      · split at h
        · injection h with h; omega
        · cases h
  · decide
theorem afO (F : Sq SFan) (nr : Nat) : Mi F nr ≠ 12 := by
  unfold Mi
  split
  · decide
  split
  · rename_i e
    refine NZ (fun i z h => ?_) e
    unfold gF at h
    split at h
    · injection h with h; subst h; exact ag5 _
    · split at h
      · cases h
      · injection h with h; omega
  · decide
theorem afJ (l : Sq aC) (i : Nat) : DC l i ≠ 12 := by
  unfold DC
  split
  · decide
  split
  · decide
  split
  · decide
  split
  · decide
  split
  · decide
  split <;> decide
theorem aeo (l : Sq aC) : zM l ≠ 12 := by
  unfold zM
  split
  · decide
  split
  · rename_i e
    refine NZ (fun i z h => ?_) e
    unfold gDo at h
    split at h
    · cases h
    · injection h with h; subst h; exact afJ _ _
  · decide
theorem agM (a : SAir) : airE a ≠ 12 := by
  unfold airE
  split
  · exact afW _
  split
  · exact afO _ _
  unfold zN
  split
  · exact aeo _
  split <;> decide
end Go.Proofs.YtmfiagdelnddkaaGreat.Ab
