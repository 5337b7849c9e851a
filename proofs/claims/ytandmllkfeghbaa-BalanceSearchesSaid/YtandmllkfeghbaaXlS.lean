/- Stage 10: Searches. -/
import Derived.Test.YtandmllkfeghbaaXlP
import Derived.Test.YtandmllkfeghbaaXv
namespace Go.Proofs.Ytandmllkfeghbaa.Ab
open Go

theorem balanceSearches_true (codes : Sq Int) (hb : ∀ k, 0 ≤ codes.f k ∧ codes.f k ≤ 255) (raw : Sq Int) (place : Int) : (law10_BalanceSearches_t codes raw place).get = some true := by
  obtain ⟨c, a, s, x, b, l, b2, d⟩ := draws codes hb
  have n1 := d.n1
  have ln := d.ln
  obtain ⟨v, e4, _⟩ := Mod_ex place (wr (((l.n : Nat) : Int) + 1)) (by rw [wr_ok (by omega) (by omega)]; omega)
  unfold law10_BalanceSearches_t
  rw [get_bind d.e0, get_bind d.e1]
  dsimp only
  rw [get_bind d.e2]
  dsimp only
  rw [get_bind e4]
  have key : ∀ F : Sq (Sq Int), F.n = 3 → law10_BalanceSearches_l6 v s.Fans s.Doors a.Mine.Places a.Mine.Roads a.Fans a.Doors F 0 = some (.inl ()) := by
    intro F hF
    rw [law10_BalanceSearches_l6_eq]
    refine (loop_first (step := fun w => law10_BalanceSearches_l6_step v s.Fans s.Doors a.Mine.Places a.Mine.Roads a.Fans a.Doors F w) (n := 3) (fun _ => none) (fun i hi => ?_) ?_ 3 0 rfl).trans ?_
    · unfold law10_BalanceSearches_l6_step
      obtain ⟨r1, f1, g1⟩ := Least_same a s (F.f (Int.toNat (i : Int))) v
      obtain ⟨r2, f2, g2⟩ := Greatest_same a s (F.f (Int.toNat (i : Int))) v
      rw [get_t (decide_eq_true (by omega)), get_t (decide_eq_true (by omega)), get_bind f1, get_bind g1, get_bind f2, get_bind g2, get_f (by simp), get_f (by simp), get_f (by simp), get_f (by simp), wr_next (by omega)]
      rfl
    · unfold law10_BalanceSearches_l6_step
      rw [get_f (decide_eq_false (by omega))]; rfl
    · rw [firstN_all fun _ _ _ => rfl]
  rw [get_sum (key _ rfl)]
  dsimp only [Sum.elim]
  rw [get_bind awake_true]
  rfl
end Go.Proofs.Ytandmllkfeghbaa.Ab
