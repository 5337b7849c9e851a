/- A part of the proof, what is needed of it. -/
import Derived.Test.YtimkpfnbkclclaaGreatPm26
namespace Go.Proofs.YtimkpfnbkclclaaGreat.Ab
open Go
theorem aj3 {g : Nat → Option Int} (hg : ∀ i z, g i = some z → z ≠ 12) {n i : Nat} {z : Int} (h : bn g n i = some z) : z ≠ 12 := by
  obtain ⟨j, _, _, h3, _⟩ := om h
  exact hg j z h3
theorem anG (r : qC) (p : Int) : akQ r p ≠ 12 := by
  unfold akQ
  repeat' (split; · decide)
  decide
theorem anA (m : qI) : akt m ≠ 12 := by
  unfold akt
  split
  · decide
  split
  · decide
  split
  · decide
  split
  · rename_i e
    refine aj3 (fun i z h => ?_) e
    unfold gR at h
    split at h
    · cases h
    · injection h with h; subst h; exact anG _ _
  · decide
theorem an2 (f : SFan) : fanE f ≠ 12 := by
  unfold fanE
  split
  · decide
  split
  · decide
  split
  · decide
  split
  · rename_i e
    refine aj3 (fun i z h => ?_) e
    unfold gC at h
    split at h
    · injection h with h; omega
    · split at h
      · injection h with h; omega
      · split at h
        · injection h with h; omega
        · cases h
  · decide
theorem anv (F : Sq SFan) (nr : Nat) : ajR F nr ≠ 12 := by
  unfold ajR
  split
  · decide
  split
  · rename_i e
    refine aj3 (fun i z h => ?_) e
    unfold gF at h
    split at h
    · injection h with h; subst h; exact an2 _
    · split at h
      · cases h
      · injection h with h; omega
  · decide
theorem ant (l : Sq qD) (i : Nat) : ajt l i ≠ 12 := by
  unfold ajt
  split
  · decide
  split
  · decide
  split
  · decide
  split
  · decide
  split
  · decide
  split <;> decide
theorem amR (l : Sq qD) : ajh l ≠ 12 := by
  unfold ajh
  split
  · decide
  split
  · rename_i e
    refine aj3 (fun i z h => ?_) e
    unfold gDo at h
    split at h
    · cases h
    · injection h with h; subst h; exact ant _ _
  · decide
theorem anY (a : SAir) : airE a ≠ 12 := by
  unfold airE
  split
  · exact anA _
  split
  · exact anv _ _
  unfold aji
  split
  · exact amR _
  split <;> decide
end Go.Proofs.YtimkpfnbkclclaaGreat.Ab
