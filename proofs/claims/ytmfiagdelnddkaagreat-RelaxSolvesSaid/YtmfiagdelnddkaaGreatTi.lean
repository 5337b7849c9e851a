/- Stage 12: Solves. -/
import Derived.Test.YtmfiagdelnddkaaGreatTE
import Derived.Test.YtmfiagdelnddkaaGreatXki
namespace Go.Proofs.YtmfiagdelnddkaaGreat.Ab
open Go
theorem agw (codes : Sq Int) (hb : ∀ k, 0 ≤ codes.f k ∧ codes.f k ≤ 255) : (sJ codes).get = some true := by
  obtain ⟨c, e0, hc⟩ := X7 codes hb
  obtain ⟨a, s, x, b, e1, b0, b1, md⟩ := rQ hc
  have np := md.np
  have n1 := md.n1
  obtain ⟨sh, s0, _, _, _, _, _, hE, dF, dD, _⟩ := md.e
  have hfn := hE.fn
  have hdn := hE.dn
  have f1 := hE.f.n
  have f2 := hE.d.n
  have f3 := dF.n
  have f4 := dD.n
  obtain ⟨t, b3, e3, _, _, t1, t2, t3, t4⟩ := Wp (hc.at b0 b1) a (by omega) (by omega) (fun i hi => by have := (hE.d.f i hi).1.n1; omega)
  have rs := md.right
  have rt : aZ a t = true := hE.right md.mine t1 t2 t3 t4
  have key : ∀ B : Sq au, B.n = 2 → (∀ i, i < 2 → aZ a (B.f i) = true) → xQ a.Mine.Places a.Mine.Roads a.Fans a.Doors B 0 = some (.inl ()) := fun B hB hr => by
    rw [Je]
    refine (aX (step := fun v => gL a.Mine.Places a.Mine.Roads a.Fans a.Doors B v) (n := 2) (fun _ => none) (fun i hi => ?_) ?_ 2 0 (Nat.zero_add _)).trans ?_
    · unfold gL
      have nn := aiX (hr i hi)
      rw [aA (decide_eq_true (by omega)), aA (dix (by omega)), aF, aQ (by omega)]
      refine (get_bind (X9 a (B.f i) (by omega) (by omega))).trans ?_
      refine (get_bind (acf a (B.f i) (by omega))).trans ?_
      rw [aD (by simp), get_bind (Lv (by omega)), aD (b := !true) rfl, get_bind (Lv (by omega)), aD (b := !true) rfl]; rfl
    · unfold gL
      rw [aD (decide_eq_false (by omega))]; rfl
    · rw [dx fun _ _ _ => rfl]
  unfold sJ
  rw [get_bind e0, get_bind e1]
  dsimp only
  rw [get_bind e3]
  dsimp only
  rw [aI (key _ rfl fun i hi => by
    rcases (show i = 0 ∨ i = 1 by omega) with q | q
    · subst q; exact rs
    · subst q; exact rt)]
  dsimp only [Sum.elim]
  rw [get_bind jm]; rfl
end Go.Proofs.YtmfiagdelnddkaaGreat.Ab
