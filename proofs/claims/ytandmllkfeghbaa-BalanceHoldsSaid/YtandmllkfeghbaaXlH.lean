/- Stage 10: Holds. -/
import Derived.Test.YtandmllkfeghbaaXlP
import Derived.Test.YtandmllkfeghbaaXv
namespace Go.Proofs.Ytandmllkfeghbaa.Ab
open Go

/-- In a state that fits each flow lies in its span. -/
theorem fit_in {a : SAir} {s : SSetting} {x : SState} (md : MdD a s x) (ok : RtOK a s) {j : Nat} (hj : j < a.Mine.Roads.n) (hq : -300 ≤ x.Flows.f j ∧ x.Flows.f j ≤ 300) :
    flL a s j (x.Pressures.f (a.Mine.Roads.f j).From.toNat - x.Pressures.f (a.Mine.Roads.f j).To.toNat) ≤ x.Flows.f j ∧ x.Flows.f j ≤ flH a s j (x.Pressures.f (a.Mine.Roads.f j).From.toNat - x.Pressures.f (a.Mine.Roads.f j).To.toNat) := by
  have f := md.fits hj
  generalize x.Pressures.f (a.Mine.Roads.f j).From.toNat - x.Pressures.f (a.Mine.Roads.f j).To.toNat = p at f ⊢
  have b := fl_in ok hj p
  constructor
  · rcases Int.lt_or_le (x.Flows.f j) (flL a s j p) with c | c
    · have q := (flL_c ok hj p).2.f (flL a s j p) (by omega) (by omega)
      have r := (dropP_lt ok hj (x := x.Flows.f j) (y := flL a s j p) (by omega) c (by omega)).2
      omega
    · exact c
  · rcases Int.lt_or_le (flH a s j p) (x.Flows.f j) with c | c
    · have q := (flH_c ok hj p).2.t (flH a s j p) (Int.le_refl _) (by omega)
      have r := (dropP_lt ok hj (x := flH a s j p) (y := x.Flows.f j) (by omega) c (by omega)).1
      omega
    · exact c
theorem net_sum (R : Sq SRoad) (q : Sq Int) (k : Int) : ∀ n, net R q k n = sumN (fun j => (if (R.f j).From = k then q.f j else 0) - (if (R.f j).To = k then q.f j else 0)) n := by
  intro n
  induction n with
  | zero => rfl
  | succ n ih => rw [net_succ, ih]; exact Int.add_sub_assoc _ _ _
/-- In a state that fits what leaves a place below ground can be nothing. -/
theorem fit_net {a : SAir} {s : SSetting} {x : SState} (md : MdD a s x) (ok : RtOK a s) {k : Nat} (hk : k < a.Mine.Places.n) (hs : (a.Mine.Places.f k).Surface = false) : NL a s x.Pressures k (x.Pressures.f k) ≤ 0 ∧ 0 ≤ NH a s x.Pressures k (x.Pressures.f k) := by
  obtain ⟨sh, s0, _, _, hP, _, hq, _⟩ := md.e
  have h1 : sh ≤ k := by
    rcases Nat.lt_or_ge k sh with c | c
    · have := (hP.f k hk).1
      rw [hs, blt_t c] at this
      cases this
    · exact c
  have e := hq.e k h1 hk
  rw [net_sum] at e
  rw [← e]
  refine ⟨sumN_le fun j hj => ?_, sumN_le fun j hj => ?_⟩
  all_goals
    have r := hq.r j hj
    have f := fit_in md ok hj ⟨r.q0, r.q1⟩
    have rz := r.z
    have ne := r.ne
    first | unfold coL | unfold coH
    by_cases cl : (a.Mine.Roads.f j).Closed = true
    · rw [if_pos cl, rz cl]; simp
    · rw [if_neg cl]
      by_cases cF : (a.Mine.Roads.f j).From = k
      · rw [if_pos cF, if_pos cF, if_neg (by omega)]
        rw [cF, Int.toNat_natCast] at f
        omega
      · rw [if_neg cF, if_neg cF]
        by_cases cT : (a.Mine.Roads.f j).To = k
        · rw [if_pos cT, if_pos cT]
          rw [cT, Int.toNat_natCast] at f
          omega
        · rw [if_neg cT, if_neg cT]; omega
theorem balanceHolds_true (codes : Sq Int) (hb : ∀ k, 0 ≤ codes.f k ∧ codes.f k ≤ 255) (place : Int) : (law10_BalanceHolds_t codes place).get = some true := by
  obtain ⟨c, a, s, x, b, l, b2, d⟩ := draws codes hb
  have n0 := d.n0
  have n1 := d.n1
  have ln := d.ln
  have xn := d.xn
  obtain ⟨v, e4, _, hv⟩ := Mod_ex place ((l.n : Nat) : Int) (by omega)
  have hv := hv (by omega)
  have bo := d.lb v.toNat (by omega)
  have ok := right_ok d.rt
  unfold law10_BalanceHolds_t
  rw [get_bind d.e0, get_bind d.e1]
  dsimp only
  have key : law10_BalanceHolds_l4 place c.l_ b a.Mine.Places a.Mine.Roads a.Fans a.Doors s.Fans s.Doors x.Pressures x.Flows 0 = some (.inl ()) := by
    rw [law10_BalanceHolds_l4_eq]
    refine (loop_first (step := fun w => law10_BalanceHolds_l4_step place c.l_ b a.Mine.Places a.Mine.Roads a.Fans a.Doors s.Fans s.Doors x.Pressures x.Flows w) (n := a.Mine.Places.n) (fun _ => none) (fun i hi => ?_) ?_ a.Mine.Places.n 0 (Nat.zero_add _)).trans ?_
    · unfold law10_BalanceHolds_l4_step
      have f := balance_Net_v (a := a) (s := s) (P := x.Pressures) (pl := i) ⟨d.rt, ⟨xn, fun k hk => by have := d.xb k hk; omega⟩, by omega, by omega⟩
      rw [get_t (dlt hi), get_t (dix hi), get_bind f, toNat_nat, wr_next (by omega)]
      by_cases su : (a.Mine.Places.f i).Surface = true
      · rw [get_f (by rw [su]; rfl)]; rfl
      · have q := fit_net d.md ok hi (by simpa using su)
        rw [get_t (by simpa using su), get_f (decide_eq_false (by unfold netS; dsimp only; rw [toNat_nat]; omega)), get_f (decide_eq_false (by unfold netS; dsimp only; rw [toNat_nat]; omega))]; rfl
    · unfold law10_BalanceHolds_l4_step
      rw [get_f (dge (Nat.le_refl _))]; rfl
    · rw [firstN_all fun _ _ _ => rfl]
  rw [get_sum key]
  dsimp only [Sum.elim]
  rw [get_bind d.e2]
  dsimp only
  rw [get_bind e4]
  obtain ⟨r, er, hr⟩ := balance_Least_ex (d.pro hv.1 hv.2)
  rw [get_bind er]
  have net : ∀ p : Int, -70368744177664 ≤ p → p ≤ 70368744177664 → ∃ S, balance_Net a s ⟨l.n, fun k => cond (Nat.beq k v.toNat) p (l.f k)⟩ v = some S ∧ S.Low = NL a s l v p := fun p p0 p1 => by
    have h : SameBut l l v := ⟨rfl, fun _ _ => rfl⟩
    have f := balance_Net_v (a := a) (s := s) (P := ⟨l.n, fun k => cond (Nat.beq k v.toNat) p (l.f k)⟩) (pl := v) ⟨d.rt, h.ok d.prs p0 p1, hv.1, hv.2⟩
    refine ⟨_, f, ?_⟩
    unfold netS
    dsimp only
    rw [beq_t rfl]
    exact (N_own ok v p fun k hk => (h.set p).f k (by omega)).1
  rcases hr with ⟨h1, h2, h3, h4, h5⟩ | ⟨h1, h2⟩
  · obtain ⟨z, o⟩ := r
    dsimp only at h1 h2 h3 h4 h5
    subst h1
    obtain ⟨S1, f1, g1⟩ := net z (by omega) h3
    rw [get_f (b := !true) rfl, get_t (decide_eq_true hv)]
    dsimp only
    rw [get_f (decide_eq_false (by omega)), get_t (decide_eq_true ⟨by omega, by omega⟩), get_t (decide_eq_true ⟨by omega, by omega⟩), get_t (decide_eq_true hv), get_t (decide_eq_true hv), get_bind f1, get_t (decide_eq_true (by omega)), get_t (decide_eq_true hv)]
    by_cases cz : z = l.f v.toNat
    · rw [get_t (by simpa using cz), get_bind awake_true]; rfl
    · obtain ⟨S2, f2, g2⟩ := net (z - 1) (by omega) (by omega)
      have := h5 (z - 1) (by omega) (by omega)
      rw [get_f (by simpa using cz), wr_ok (by omega) (by omega), get_bind f2, get_t (decide_eq_true (by omega)), get_bind awake_true]; rfl
  · subst h1
    rw [get_t (b := !false) rfl, get_t (b := !false) rfl]
    by_cases cr : (((a.Mine.Roads.n : Nat) : Int) == 0) = true
    · rw [get_t cr]; rfl
    · obtain ⟨S1, f1, g1⟩ := net 70368744177664 (by omega) (by omega)
      have := h2 70368744177664 (by omega) (by omega)
      have et : law10_top l v = some ⟨l.n, fun k => cond (Nat.beq k v.toNat) 70368744177664 (l.f k)⟩ := by
        rw [law10_top_eq]; unfold law10_top_t
        rw [get_t (decide_eq_true ⟨by omega, by omega⟩), get_t (decide_eq_true hv)]; rfl
      rw [get_f (by simpa using cr), get_t (b := !false) rfl, get_bind awake_true, get_t rfl, get_bind et, get_bind f1]
      exact congrArg some (decide_eq_true (by omega))
end Go.Proofs.Ytandmllkfeghbaa.Ab
