/- Stage 10: Sums. -/
import Derived.Test.YtandmllkfeghbaaXlP
import Derived.Test.YtandmllkfeghbaaXv
namespace Go.Proofs.Ytandmllkfeghbaa.Ab
open Go

/-- What a road takes away at its places, added up. -/
theorem road_sum {a : SAir} {s : SSetting} (ok : RtOK a s) (P : Sq Int) {j : Nat} (hj : j < a.Mine.Roads.n) :
    sumN (fun i => coL a s P i (P.f i) j) a.Mine.Places.n ≤ 0 ∧ 0 ≤ sumN (fun i => coH a s P i (P.f i) j) a.Mine.Places.n := by
  obtain ⟨f0, f1, t0, t1, ne⟩ := road_ends ok.m hj
  have b := fl_in ok hj (P.f (a.Mine.Roads.f j).From.toNat - P.f (a.Mine.Roads.f j).To.toNat)
  by_cases cl : (a.Mine.Roads.f j).Closed = true
  · have z : ∀ i : Nat, coL a s P i (P.f i) j = 0 ∧ coH a s P i (P.f i) j = 0 := fun i => by
      unfold coL coH
      rw [if_pos cl, if_pos cl]; exact ⟨rfl, rfl⟩
    rw [sumN_congr (g' := fun _ => 0) fun i _ => (z i).1, sumN_congr (g' := fun _ => 0) fun i _ => (z i).2, sumN_zero]
    omega
  have e : ∀ (u v : Int) (g : Nat → Int), (∀ i : Nat, g i = (if (i : Int) = (a.Mine.Roads.f j).From then u else 0) + (if (i : Int) = (a.Mine.Roads.f j).To then v else 0)) → sumN g a.Mine.Places.n = u + v := fun u v g hg => by
    rw [sumN_congr fun i _ => hg i, sumN_add, sumN_one (k := (a.Mine.Roads.f j).From.toNat) fun i _ hi => if_neg (by omega), sumN_one (k := (a.Mine.Roads.f j).To.toNat) fun i _ hi => if_neg (by omega), if_pos (by omega), if_pos (by omega), if_pos (by omega), if_pos (by omega)]
  rw [e (flL a s j (P.f (a.Mine.Roads.f j).From.toNat - P.f (a.Mine.Roads.f j).To.toNat)) (-(flH a s j (P.f (a.Mine.Roads.f j).From.toNat - P.f (a.Mine.Roads.f j).To.toNat))) (fun i => coL a s P i (P.f i) j) fun i => ?_,
    e (flH a s j (P.f (a.Mine.Roads.f j).From.toNat - P.f (a.Mine.Roads.f j).To.toNat)) (-(flL a s j (P.f (a.Mine.Roads.f j).From.toNat - P.f (a.Mine.Roads.f j).To.toNat))) (fun i => coH a s P i (P.f i) j) fun i => ?_]
  · omega
  all_goals
    first | unfold coL | unfold coH
    rw [if_neg cl]
    by_cases cF : (i : Int) = (a.Mine.Roads.f j).From
    · rw [if_pos cF.symm, if_pos cF, if_neg (by omega), ← cF, Int.toNat_natCast]; omega
    · rw [if_neg (fun q => cF q.symm), if_neg cF]
      by_cases cT : (i : Int) = (a.Mine.Roads.f j).To
      · rw [if_pos cT.symm, if_pos cT, ← cT, Int.toNat_natCast]; omega
      · rw [if_neg (fun q => cT q.symm), if_neg cT]; omega
theorem all_sum {a : SAir} {s : SSetting} (ok : RtOK a s) (P : Sq Int) : sumN (fun i => NL a s P i (P.f i)) a.Mine.Places.n ≤ 0 ∧ 0 ≤ sumN (fun i => NH a s P i (P.f i)) a.Mine.Places.n := by
  have e1 : sumN (fun i => NL a s P i (P.f i)) a.Mine.Places.n = sumN (fun j => sumN (fun i => coL a s P i (P.f i) j) a.Mine.Places.n) a.Mine.Roads.n := sumN_swap (fun (i : Nat) => coL a s P (i : Int) (P.f i)) _ _
  have e2 : sumN (fun i => NH a s P i (P.f i)) a.Mine.Places.n = sumN (fun j => sumN (fun i => coH a s P i (P.f i) j) a.Mine.Places.n) a.Mine.Roads.n := sumN_swap (fun (i : Nat) => coH a s P (i : Int) (P.f i)) _ _
  rw [e1, e2]
  have z := sumN_zero a.Mine.Roads.n
  have h1 := sumN_le (g := fun j => sumN (fun i => coL a s P i (P.f i) j) a.Mine.Places.n) (g' := fun _ => 0) (n := a.Mine.Roads.n) fun j hj => (road_sum ok P hj).1
  have h2 := sumN_le (g := fun _ => 0) (g' := fun j => sumN (fun i => coH a s P i (P.f i) j) a.Mine.Places.n) (n := a.Mine.Roads.n) fun j hj => (road_sum ok P hj).2
  omega
theorem sumN_small {g : Nat → Int} : ∀ {n : Nat}, (∀ i, i < n → -134217856 ≤ g i ∧ g i ≤ 134217856) → -(134217856 * (n : Int)) ≤ sumN g n ∧ sumN g n ≤ 134217856 * (n : Int) := by
  intro n
  induction n with
  | zero => intro _; show -(134217856 * 0) ≤ (0 : Int) ∧ (0 : Int) ≤ 134217856 * 0; omega
  | succ n ih => intro h; have a := ih fun i hi => h i (by omega); have b := h n (by omega); show _ ≤ sumN g n + g n ∧ sumN g n + g n ≤ _; omega
theorem balanceSums_true (codes : Sq Int) (hb : ∀ k, 0 ≤ codes.f k ∧ codes.f k ≤ 255) : (law10_BalanceSums_t codes).get = some true := by
  obtain ⟨c, a, s, x, b, l, b2, d⟩ := draws codes hb
  have n0 := d.n0
  have n1 := d.n1
  have ln := d.ln
  have ok := right_ok d.rt
  have h := all_sum ok l
  unfold law10_BalanceSums_t
  rw [get_bind d.e0, get_bind d.e1]
  dsimp only
  rw [get_bind d.e2]
  dsimp only
  have key : law10_BalanceSums_l6 s.Fans s.Doors a.Mine.Places a.Mine.Roads a.Fans a.Doors l 0 0 0 = some (.inl (sumN (fun i => NL a s l i (l.f i)) a.Mine.Places.n, sumN (fun i => NH a s l i (l.f i)) a.Mine.Places.n)) := by
    rw [law10_BalanceSums_l6_eq]
    refine (loop_seq (step := fun v : Int × Int × Int => law10_BalanceSums_l6_step s.Fans s.Doors a.Mine.Places a.Mine.Roads a.Fans a.Doors l v.1 v.2.1 v.2.2) (fun i => ((i : Int), sumN (fun i => NL a s l i (l.f i)) i, sumN (fun i => NH a s l i (l.f i)) i)) a.Mine.Places.n (z := .l (sumN (fun i => NL a s l i (l.f i)) a.Mine.Places.n, sumN (fun i => NH a s l i (l.f i)) a.Mine.Places.n)) (fun i hi => ?_) ?_).trans rfl
    · dsimp only
      unfold law10_BalanceSums_l6_step
      have s1 := sumN_small (g := fun i => NL a s l i (l.f i)) (n := i) fun i _ => by have := N_in ok l i (l.f i); omega
      have s2 := sumN_small (g := fun i => NH a s l i (l.f i)) (n := i) fun i _ => by have := N_in ok l i (l.f i); omega
      have b := N_in ok l i (l.f i)
      rw [get_t (dlt (by omega)), get_bind (balance_Net_v (d.pro (v := (i : Int)) (by omega) (by omega))), wr_next (by omega)]
      unfold netS
      dsimp only
      rw [toNat_nat, wr_ok (by omega) (by omega), wr_ok (by omega) (by omega)]
      rfl
    · dsimp only
      unfold law10_BalanceSums_l6_step
      rw [get_f (dge (by omega))]; rfl
  rw [get_sum key]
  dsimp only [Sum.elim]
  rw [get_t (decide_eq_true h.1), get_t (decide_eq_true h.2), get_bind awake_true]
  rfl
end Go.Proofs.Ytandmllkfeghbaa.Ab
