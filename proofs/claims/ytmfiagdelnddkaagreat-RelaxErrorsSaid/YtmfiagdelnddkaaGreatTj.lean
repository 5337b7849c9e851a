/- Stage 12: Errors. -/
import Derived.Test.YtmfiagdelnddkaaGreatTE
import Derived.Test.YtmfiagdelnddkaaGreatXkj
namespace Go.Proofs.YtmfiagdelnddkaaGreat.Ab
open Go
theorem agv (a : SAir) (s : au) (l codes : Sq Int) (hb : ∀ k, 0 ≤ codes.f k ∧ codes.f k ≤ 255) : (sI a s l codes).get = some true := by
  unfold sI
  by_cases c1 : ((a.Mine.Places.n : Nat) : Int) > 8
  · rw [aA (decide_eq_true c1), get_bind jm]; rfl
  rw [aD (decide_eq_false c1)]
  by_cases c2 : ((a.Mine.Roads.n : Nat) : Int) > 8
  · rw [aA (decide_eq_true c2), get_bind jm]; rfl
  rw [aD (decide_eq_false c2)]
  by_cases c3 : ((a.Fans.n : Nat) : Int) > 4
  · rw [aA (decide_eq_true c3), get_bind jm]; rfl
  rw [aD (decide_eq_false c3)]
  by_cases c4 : ((a.Doors.n : Nat) : Int) > 4
  · rw [aA (decide_eq_true c4), get_bind jm]; rfl
  rw [aD (decide_eq_false c4)]
  obtain ⟨c, e0, hc⟩ := X7 codes hb
  obtain ⟨x, t, y, b, e1, b0, b1, md⟩ := rQ hc
  have np := md.np
  rw [get_bind (ajb a s l (by omega)), get_bind (Np a s l), get_bind e0, get_bind e1]
  dsimp only
  rw [get_bind (agB x s l (by omega)), get_bind (Ee x s l), get_bind (agB x t l (by omega)), get_bind (Ee x t l), aA (by simp), aA (by simp), aA (by simp), get_bind jm]; rfl
end Go.Proofs.YtmfiagdelnddkaaGreat.Ab
