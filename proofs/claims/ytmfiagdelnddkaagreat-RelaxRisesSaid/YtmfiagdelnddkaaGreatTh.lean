/- Stage 12: Rises. -/
import Derived.Test.YtmfiagdelnddkaaGreatTE
import Derived.Test.YtmfiagdelnddkaaGreatXkh
namespace Go.Proofs.YtmfiagdelnddkaaGreat.Ab
open Go
theorem ahI (codes : Sq Int) (hb : ∀ k, 0 ≤ codes.f k ∧ codes.f k ≤ 255) (raw : Sq Int) : (uY codes raw).get = some true := by
  obtain ⟨c, e0, hc⟩ := X7 codes hb
  obtain ⟨a, s, x, b, e1, b0, b1, md⟩ := rQ hc
  have np := md.np
  obtain ⟨l, i, e2, _, _, st⟩ := acy (hc.at b0 b1) md
  have key : ∀ B : Sq (Sq Int), B.n = 3 → yX a.Mine.Places a.Mine.Roads a.Fans a.Doors s.Fans s.Doors B 0 = some (.inl ()) := fun B hB => by
    rw [K5]
    refine (aX (step := fun v => iK a.Mine.Places a.Mine.Roads a.Fans a.Doors s.Fans s.Doors B v) (n := 3) (fun _ => none) (fun i hi => ?_) ?_ 3 0 (Nat.zero_add _)).trans ?_
    · unfold iK
      have n1 := afr a s (B.f i) true
      have n2 := afr a s (B.f i) false
      rw [aA (decide_eq_true (by omega)), aA (dix (by omega)), aF, aQ (by omega)]
      refine (get_bind (ajb a s (B.f i) (by omega))).trans ?_
      refine (get_bind (Np a s (B.f i))).trans ?_
      refine (get_bind (agB a s (B.f i) (by omega))).trans ?_
      refine (get_bind (Ee a s (B.f i))).trans ?_
      rw [aD (by simp), aD (by simp), get_bind (Lv (by omega)), aD (b := !true) rfl, get_bind (Lv (by omega)), aD (b := !true) rfl]; rfl
    · unfold iK
      rw [aD (decide_eq_false (by omega))]; rfl
    · rw [dx fun _ _ _ => rfl]
  unfold uY
  rw [get_bind e0, get_bind e1]
  dsimp only
  rw [get_bind e2]
  dsimp only
  rw [aI (key _ rfl)]
  dsimp only [Sum.elim]
  rw [get_bind jm]; rfl
end Go.Proofs.YtmfiagdelnddkaaGreat.Ab
