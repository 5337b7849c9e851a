/- Stage 10: Narrows. -/
import Derived.Test.YtandmllkfeghbaaXlP
import Derived.Test.YtandmllkfeghbaaXv
namespace Go.Proofs.Ytandmllkfeghbaa.Ab
open Go

/-- A road of which less is known. -/
def wdR (z : Int) (r : SRoad) : SRoad := ⟨r.From, r.To, r.Length, r.Area, r.Walk, r.Closed, ⟨if 1 < r.Rest.Low - z % 3 then r.Rest.Low - z % 3 else 1, r.Rest.High + z % 5⟩, ⟨r.Lift.Low - z, r.Lift.High + z % 7⟩⟩
theorem rsum_shift (D : Sq SDoor) (s : Sq Int) (road : Int) (b b' : Int × Int) : ∀ k, (rsum D s road b k).1 - b.1 = (rsum D s road b' k).1 - b'.1 ∧ (rsum D s road b k).2 - b.2 = (rsum D s road b' k).2 - b'.2 := by
  intro k
  induction k with
  | zero => show b.1 - b.1 = b'.1 - b'.1 ∧ b.2 - b.2 = b'.2 - b'.2; omega
  | succ k ih =>
    unfold rsum
    split
    · dsimp only; omega
    · exact ih
theorem fsum_shift (F : Sq SFan) (s : Sq Int) (road x : Int) (b b' : Int × Int) : ∀ k, (fsum F s road x b k).1 - b.1 = (fsum F s road x b' k).1 - b'.1 ∧ (fsum F s road x b k).2 - b.2 = (fsum F s road x b' k).2 - b'.2 := by
  intro k
  induction k with
  | zero => show b.1 - b.1 = b'.1 - b'.1 ∧ b.2 - b.2 = b'.2 - b'.2; omega
  | succ k ih =>
    unfold fsum
    split
    · dsimp only; omega
    · exact ih
theorem sqS_wide {lo hi lo' hi' : Int} (h1 : lo' ≤ lo) (h2 : hi ≤ hi') (x : Int) : (sqS lo' hi' x).1 ≤ (sqS lo hi x).1 ∧ (sqS lo hi x).2 ≤ (sqS lo' hi' x).2 := by
  have hx : 0 ≤ x * x := by
    rcases Int.le_total 0 x with h | h
    · exact Int.mul_nonneg h h
    · exact Int.mul_nonneg_of_nonpos_of_nonpos h h
  have a := Int.mul_le_mul_of_nonneg_right h1 hx
  have b := Int.mul_le_mul_of_nonneg_right h2 hx
  unfold sqS
  split
  · dsimp only; omega
  · dsimp only; omega
theorem wide_drop {a : SAir} {s : SSetting} {W : Sq SRoad} {z : Int} (hz : 0 ≤ z) {i : Nat} (hr : 1 ≤ (a.Mine.Roads.f i).Rest.Low) (hW : W.f i = wdR z (a.Mine.Roads.f i)) (x : Int) :
    (dropP ⟨⟨a.Mine.Places, W⟩, a.Fans, a.Doors⟩ s i x).1 ≤ (dropP a s i x).1 ∧ (dropP a s i x).2 ≤ (dropP ⟨⟨a.Mine.Places, W⟩, a.Fans, a.Doors⟩ s i x).2 := by
  unfold dropP
  dsimp only
  rw [hW]
  have r := rsum_shift a.Doors s.Doors i ((wdR z (a.Mine.Roads.f i)).Rest.Low, (wdR z (a.Mine.Roads.f i)).Rest.High) ((a.Mine.Roads.f i).Rest.Low, (a.Mine.Roads.f i).Rest.High) a.Doors.n
  have w1 : (wdR z (a.Mine.Roads.f i)).Rest.Low ≤ (a.Mine.Roads.f i).Rest.Low := by unfold wdR; dsimp only; split <;> omega
  have w2 : (a.Mine.Roads.f i).Rest.High ≤ (wdR z (a.Mine.Roads.f i)).Rest.High := by unfold wdR; dsimp only; omega
  have w3 : (wdR z (a.Mine.Roads.f i)).Lift.Low ≤ (a.Mine.Roads.f i).Lift.Low := by unfold wdR; dsimp only; omega
  have w4 : (a.Mine.Roads.f i).Lift.High ≤ (wdR z (a.Mine.Roads.f i)).Lift.High := by unfold wdR; dsimp only; omega
  generalize rsum a.Doors s.Doors i ((wdR z (a.Mine.Roads.f i)).Rest.Low, (wdR z (a.Mine.Roads.f i)).Rest.High) a.Doors.n = b' at r ⊢
  generalize rsum a.Doors s.Doors i ((a.Mine.Roads.f i).Rest.Low, (a.Mine.Roads.f i).Rest.High) a.Doors.n = b at r ⊢
  dsimp only at r
  have q := sqS_wide (lo := b.1) (hi := b.2) (lo' := b'.1) (hi' := b'.2) (by omega) (by omega) x
  have f := fsum_shift a.Fans s.Fans i x ((sqS b'.1 b'.2 x).1 - (wdR z (a.Mine.Roads.f i)).Lift.High, (sqS b'.1 b'.2 x).2 - (wdR z (a.Mine.Roads.f i)).Lift.Low) ((sqS b.1 b.2 x).1 - (a.Mine.Roads.f i).Lift.High, (sqS b.1 b.2 x).2 - (a.Mine.Roads.f i).Lift.Low) a.Fans.n
  dsimp only at f
  omega
theorem wide_N {a : SAir} {s : SSetting} (ok : RtOK a s) {W : Sq SRoad} {z : Int} (hz : 0 ≤ z) (hn : W.n = a.Mine.Roads.n) (hW : ∀ i, i < a.Mine.Roads.n → W.f i = wdR z (a.Mine.Roads.f i)) (ok' : RtOK ⟨⟨a.Mine.Places, W⟩, a.Fans, a.Doors⟩ s) (P : Sq Int) (pl p : Int) :
    NL ⟨⟨a.Mine.Places, W⟩, a.Fans, a.Doors⟩ s P pl p ≤ NL a s P pl p ∧ NH a s P pl p ≤ NH ⟨⟨a.Mine.Places, W⟩, a.Fans, a.Doors⟩ s P pl p := by
  have fl : ∀ i, i < a.Mine.Roads.n → ∀ q, flL ⟨⟨a.Mine.Places, W⟩, a.Fans, a.Doors⟩ s i q ≤ flL a s i q ∧ flH a s i q ≤ flH ⟨⟨a.Mine.Places, W⟩, a.Fans, a.Doors⟩ s i q := fun i hi q => by
    have hi' : i < (⟨⟨a.Mine.Places, W⟩, a.Fans, a.Doors⟩ : SAir).Mine.Roads.n := by dsimp only; omega
    have d := fun x => wide_drop (s := s) hz (road_rest ok.m hi).1 (hW i hi) x
    have c1 := (flL_c ok' hi' q).2.mono (flL_c ok hi q).2 fun x hx => by have := d x; omega
    have c2 := (flH_c ok hi q).2.mono (flH_c ok' hi' q).2 fun x hx => by have := d x; omega
    omega
  unfold NL NH
  dsimp only
  rw [hn]
  refine ⟨sumN_le fun i hi => ?_, sumN_le fun i hi => ?_⟩
  all_goals
    have f1 := fl i hi (p - P.f (a.Mine.Roads.f i).To.toNat)
    have f2 := fl i hi (P.f (a.Mine.Roads.f i).From.toNat - p)
    first | unfold coL | unfold coH
    dsimp only
    rw [hW i hi]
    show (if (a.Mine.Roads.f i).Closed = true then (0 : Int) else if (a.Mine.Roads.f i).From = pl then _ else if (a.Mine.Roads.f i).To = pl then _ else _) ≤ (if (a.Mine.Roads.f i).Closed = true then (0 : Int) else if (a.Mine.Roads.f i).From = pl then _ else if (a.Mine.Roads.f i).To = pl then _ else _)
    by_cases cl : (a.Mine.Roads.f i).Closed = true
    · rw [if_pos cl, if_pos cl]; exact Int.le_refl _
    · rw [if_neg cl, if_neg cl]
      by_cases cF : (a.Mine.Roads.f i).From = pl
      · rw [if_pos cF, if_pos cF]
        first | exact f1.1 | exact f1.2
      · rw [if_neg cF, if_neg cF]
        by_cases cT : (a.Mine.Roads.f i).To = pl
        · rw [if_pos cT, if_pos cT]
          first | exact Int.neg_le_neg f2.2 | exact Int.neg_le_neg f2.1
        · rw [if_neg cT, if_neg cT]; exact Int.le_refl _
theorem wide_l7 {a : SAir} {s : SSetting} (P : Sq Int) (v : Int) {z : Int} (z0 : 0 ≤ z) (z1 : z ≤ 255) (nr : a.Mine.Roads.n ≤ 128)
    (hr : ∀ i, i < a.Mine.Roads.n → -4000000000000 ≤ (a.Mine.Roads.f i).Rest.Low ∧ (a.Mine.Roads.f i).Rest.Low ≤ 4000000000000 ∧ -4000000000000 ≤ (a.Mine.Roads.f i).Rest.High ∧ (a.Mine.Roads.f i).Rest.High ≤ 4000000000000 ∧ -4000000000000 ≤ (a.Mine.Roads.f i).Lift.Low ∧ (a.Mine.Roads.f i).Lift.Low ≤ 4000000000000 ∧ -4000000000000 ≤ (a.Mine.Roads.f i).Lift.High ∧ (a.Mine.Roads.f i).Lift.High ≤ 4000000000000) :
    ∃ W, law10_BalanceNarrows_l7 z v s.Fans s.Doors a.Mine.Places a.Mine.Roads a.Fans a.Doors P 0 a.Mine.Roads = some (.inl W) ∧ W.n = a.Mine.Roads.n ∧ ∀ i, i < a.Mine.Roads.n → W.f i = wdR z (a.Mine.Roads.f i) := by
  have key := loop_ex (step := fun w : Int × Sq SRoad => law10_BalanceNarrows_l7_step z v s.Fans s.Doors a.Mine.Places a.Mine.Roads a.Fans a.Doors P w.1 w.2)
    (fun w => ∃ i : Nat, w.1 = i ∧ i ≤ a.Mine.Roads.n ∧ w.2.n = a.Mine.Roads.n ∧ ∀ k, w.2.f k = if k < i then wdR z (a.Mine.Roads.f k) else a.Mine.Roads.f k) (fun w => a.Mine.Roads.n - w.1.toNat)
    (fun y => ∃ W, y = .inl W ∧ W.n = a.Mine.Roads.n ∧ ∀ i, i < a.Mine.Roads.n → W.f i = wdR z (a.Mine.Roads.f i)) (fun w hw => by
      obtain ⟨x, R⟩ := w
      obtain ⟨i, rfl, hi, hn, hR⟩ := hw
      dsimp only at hn hR ⊢
      unfold law10_BalanceNarrows_l7_step
      by_cases c : i < a.Mine.Roads.n
      · have b := hr i c
        have ez : wr z = z := wr_ok (by omega) (by omega)
        have e3 : Int.tmod z 3 = z % 3 := Int.tmod_eq_emod_of_nonneg z0
        have e5 : Int.tmod z 5 = z % 5 := Int.tmod_eq_emod_of_nonneg z0
        have e7 : Int.tmod z 7 = z % 7 := Int.tmod_eq_emod_of_nonneg z0
        have er : R.f i = a.Mine.Roads.f i := by rw [hR, if_neg (Nat.lt_irrefl _)]
        rw [get_t (dlt c), get_t (dix (by omega)), wr_next (by omega)]
        refine ⟨_, rfl, ⟨i + 1, rfl, by omega, hn, fun k => ?_⟩, by dsimp only; omega⟩
        dsimp only
        rw [toNat_nat]
        by_cases d : k = i
        · subst d
          rw [if_pos (Nat.lt_succ_self _)]
          simp only [beq_t (rfl : k = k), cond_true, er, ez, e3, e5, e7]
          rw [wr_ok (x := (a.Mine.Roads.f k).Rest.Low - z % 3) (by omega) (by omega), wr_ok (x := (a.Mine.Roads.f k).Rest.High + z % 5) (by omega) (by omega), wr_ok (x := (a.Mine.Roads.f k).Lift.Low - z) (by omega) (by omega), wr_ok (x := (a.Mine.Roads.f k).Lift.High + z % 7) (by omega) (by omega)]
          rfl
        · simp only [beq_f d, cond_false]
          show R.f k = _
          rw [hR]
          by_cases d2 : k < i
          · rw [if_pos d2, if_pos (by omega)]
          · rw [if_neg d2, if_neg (by omega)]
      · obtain rfl : i = a.Mine.Roads.n := by omega
        rw [get_f (dge (Nat.le_refl _))]
        exact ⟨_, rfl, _, rfl, hn, fun k hk => by rw [hR, if_pos hk]⟩)
    (0, a.Mine.Roads) ⟨0, rfl, by omega, rfl, fun k => (if_neg (Nat.not_lt_zero _)).symm⟩
  obtain ⟨y, hy, W, rfl, g⟩ := key
  exact ⟨W, by rw [law10_BalanceNarrows_l7_eq]; exact hy, g⟩
theorem balanceNarrows_true (codes : Sq Int) (hb : ∀ k, 0 ≤ codes.f k ∧ codes.f k ≤ 255) (place z : Int) (hz : 0 ≤ z ∧ z ≤ 255) : (law10_BalanceNarrows_t codes place z).get = some true := by
  obtain ⟨c, a, s, x, b, l, b2, d⟩ := draws codes hb
  have n0 := d.n0
  have n1 := d.n1
  have ln := d.ln
  obtain ⟨v, e4, _, hv⟩ := Mod_ex place ((l.n : Nat) : Int) (by omega)
  have hv := hv (by omega)
  have ok := right_ok d.rt
  have nr := ok.m.nr
  obtain ⟨sh, s0, _, _, _, _, hq, _, _, _, hL⟩ := d.md.e
  obtain ⟨W, e5, hn, hW⟩ := wide_l7 (a := a) (s := s) l v hz.1 hz.2 nr fun i hi => by
    have := road_rest ok.m hi
    omega
  have m' : MineOK ⟨a.Mine.Places, W⟩ := by
    refine ⟨ok.m.np, by dsimp only; omega, ok.m.h, fun i hi => ?_⟩
    dsimp only at hi ⊢
    have hi : i < a.Mine.Roads.n := by omega
    rw [hW i hi]
    have r := hq.r i hi
    have rd := r.d
    have q1 := r.f0
    have q2 := r.f1
    have q3 := r.t0
    have q4 := r.t1
    have q5 := r.ne
    have r0 := rd.l0
    have r1 := rd.l1
    have r2 := rd.a0
    have r3 := rd.a1
    have r4 := rd.r0
    have r5 := rd.r1
    have r6 := rd.r2
    have l0 := (hL i hi).l0
    have l1 := (hL i hi).l1
    have l2 := (hL i hi).l2
    unfold roadE wdR
    dsimp only
    have hw : 1 ≤ (if 1 < (a.Mine.Roads.f i).Rest.Low - z % 3 then (a.Mine.Roads.f i).Rest.Low - z % 3 else 1) ∧ (if 1 < (a.Mine.Roads.f i).Rest.Low - z % 3 then (a.Mine.Roads.f i).Rest.Low - z % 3 else 1) ≤ (a.Mine.Roads.f i).Rest.Low := by split <;> omega
    generalize (if 1 < (a.Mine.Roads.f i).Rest.Low - z % 3 then (a.Mine.Roads.f i).Rest.Low - z % 3 else 1) = w at hw ⊢
    rw [if_neg (by omega), if_neg (by omega), if_neg (by omega), if_neg (by omega), if_neg (by omega), if_neg (by omega), if_neg (by omega)]
  have rt' : rightB ⟨⟨a.Mine.Places, W⟩, a.Fans, a.Doors⟩ s = true := by
    have p := airE_parts (rightB_air d.rt)
    have h := d.rt
    unfold rightB at h ⊢
    split at h
    · rename_i q
      rw [if_pos]
      refine ⟨?_, q.2⟩
      unfold airE
      dsimp only
      rw [(mineE_ok _).2 m', if_neg (by omega), hn, p.2.1, if_neg (by omega), p.2.2]
    · cases h
  have h := wide_N ok hz.1 hn hW (right_ok rt') l v (l.f v.toNat)
  have h0 := N_in ok l v (l.f v.toNat)
  have f1 := balance_Net_v (d.pro hv.1 hv.2)
  have f2 := balance_Net_v (a := ⟨⟨a.Mine.Places, W⟩, a.Fans, a.Doors⟩) (s := s) (P := l) (pl := v) ⟨rt', ⟨d.ln, d.prs.f⟩, hv.1, hv.2⟩
  unfold law10_BalanceNarrows_t
  rw [get_bind d.e0, get_bind d.e1]
  dsimp only
  rw [get_bind d.e2]
  dsimp only
  rw [get_bind e4, get_t (decide_eq_true ⟨by omega, by omega⟩), get_sum e5]
  dsimp only [Sum.elim]
  rw [get_bind f1, get_bind f2, get_t (decide_eq_true (show (netS ⟨⟨a.Mine.Places, W⟩, a.Fans, a.Doors⟩ s l v).Low ≤ (netS a s l v).Low from h.1)), get_t (decide_eq_true (show (netS a s l v).Low ≤ (netS a s l v).High from h0.2.1)), get_t (decide_eq_true (show (netS ⟨⟨a.Mine.Places, W⟩, a.Fans, a.Doors⟩ s l v).High ≥ (netS a s l v).High from h.2)), get_bind awake_true]
  rfl
end Go.Proofs.Ytandmllkfeghbaa.Ab
