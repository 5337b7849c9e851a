/- Stage 11: a setting of which more is known. -/
import Derived.Test.YtnoeblpanfbpjaaGreatXJ
import Derived.Test.YtnoeblpanfbpjaaGreatXlg
import Derived.Test.YtnoeblpanfbpjaaGreatXC
namespace Go.Proofs.YtnoeblpanfbpjaaGreat.Ab
open Go

theorem sqS_wide {lo hi lo' hi' : Int} (h1 : lo' ≤ lo) (h2 : hi ≤ hi') (x : Int) : (sqS lo' hi' x).1 ≤ (sqS lo hi x).1 ∧ (sqS lo hi x).2 ≤ (sqS lo' hi' x).2 := by
  have hx : 0 ≤ x * x := by
    rcases Int.le_total 0 x with h | h
    · exact Int.mul_nonneg h h
    · exact Int.mul_nonneg_of_nonpos_of_nonpos h h
  have a := Int.mul_le_mul_of_nonneg_right h1 hx
  have b := Int.mul_le_mul_of_nonneg_right h2 hx
  unfold sqS
  split
  · dsimp only; omega
  · dsimp only; omega
/-- What is not known of s, may be known of t. -/
structure Nar (a : SAir) (s t : SSetting) : Prop where
  fn : t.Fans.n = s.Fans.n
  dn : t.Doors.n = s.Doors.n
  f : ∀ i, i < s.Fans.n → t.Fans.f i = s.Fans.f i ∨ (s.Fans.f i = -1 ∧ 0 ≤ t.Fans.f i ∧ t.Fans.f i ≤ 2)
  d : ∀ i, i < s.Doors.n → t.Doors.f i = s.Doors.f i ∨ (s.Doors.f i = -1 ∧ 0 ≤ t.Doors.f i ∧ t.Doors.f i < ((a.Doors.f i).Rests.n : Int))
theorem st_nar {f : SFan} (ok : okC f.Curve) {s t : Int} (h : t = s ∨ (s = -1 ∧ 0 ≤ t ∧ t ≤ 2)) (x : Int) : (stS f s x).Low ≤ (stS f t x).Low ∧ (stS f t x).High ≤ (stS f s x).High := by
  rcases h with rfl | ⟨rfl, t0, t1⟩
  · exact ⟨Int.le_refl _, Int.le_refl _⟩
  · have a := blow_ok ok f.Back x
    have b := blow_ok ok (!f.Back) x
    have e : stS f (-1) x = ⟨minI (minI 0 (blowS f.Curve f.Back x).Low) (blowS f.Curve (!f.Back) x).Low, maxI (maxI 0 (blowS f.Curve f.Back x).High) (blowS f.Curve (!f.Back) x).High⟩ := by
      unfold stS
      rw [if_neg (by omega), if_neg (by omega), if_neg (by omega)]
    have l : stS f t x = ⟨0, 0⟩ ∨ stS f t x = blowS f.Curve f.Back x ∨ stS f t x = blowS f.Curve (!f.Back) x := by
      unfold stS
      by_cases c0 : t = 0
      · rw [if_pos c0]; exact .inl rfl
      · rw [if_neg c0]
        by_cases c1 : t = 1
        · rw [if_pos c1]; exact .inr (.inl rfl)
        · rw [if_neg c1, if_pos (by omega)]; exact .inr (.inr rfl)
    rw [e]
    generalize blowS f.Curve f.Back x = u at *
    generalize blowS f.Curve (!f.Back) x = v at *
    dsimp only
    rcases l with q | q | q <;> rw [q] <;> unfold minI maxI <;> constructor <;> (repeat' split) <;> first | (dsimp only; omega) | omega
theorem rs_nar {r : Sq Int} (ok : RestOK r) {s t : Int} (h : t = s ∨ (s = -1 ∧ 0 ≤ t ∧ t < r.n)) : (rsS r s).Low ≤ (rsS r t).Low ∧ (rsS r t).High ≤ (rsS r s).High := by
  rcases h with rfl | ⟨rfl, t0, t1⟩
  · exact ⟨Int.le_refl _, Int.le_refl _⟩
  · have := rs_doubt ok t0 t1 (.inr rfl : (-1 : Int) = t ∨ (-1 : Int) = -1)
    have e : rsS r t = ⟨r.f t.toNat, r.f t.toNat⟩ := if_pos t0
    rw [e] at this ⊢
    exact this
section
variable {a : SAir} {s t : SSetting}
theorem rsum_nar (ok : RtOK a s) (h : Nar a s t) (road : Int) (b : Int × Int) : ∀ k, k ≤ a.Doors.n → (rsum a.Doors s.Doors road b k).1 ≤ (rsum a.Doors t.Doors road b k).1 ∧ (rsum a.Doors t.Doors road b k).2 ≤ (rsum a.Doors s.Doors road b k).2 := by
  have sd := ok.sd
  intro k
  induction k with
  | zero => intro _; exact ⟨Int.le_refl _, Int.le_refl _⟩
  | succ k ih =>
    intro hk
    have i := ih (by omega)
    have q := rs_nar (ok.d k (by omega)).1 (h.d k (by omega))
    unfold rsum
    split
    · dsimp only; omega
    · exact i
theorem fsum_nar (ok : RtOK a s) (h : Nar a s t) (road x : Int) (b b' : Int × Int) : ∀ k, k ≤ a.Fans.n → (fsum a.Fans s.Fans road x b k).1 - b.1 ≤ (fsum a.Fans t.Fans road x b' k).1 - b'.1 ∧ (fsum a.Fans t.Fans road x b' k).2 - b'.2 ≤ (fsum a.Fans s.Fans road x b k).2 - b.2 := by
  have sf := ok.sf
  intro k
  induction k with
  | zero => intro _; show b.1 - b.1 ≤ b'.1 - b'.1 ∧ b'.2 - b'.2 ≤ b.2 - b.2; omega
  | succ k ih =>
    intro hk
    have i := ih (by omega)
    have q := st_nar (fanE_curve (ok.f k (by omega)).1) (h.f k (by omega)) x
    unfold fsum
    split
    · dsimp only; omega
    · exact i
theorem drop_nar (ok : RtOK a s) (h : Nar a s t) (i : Nat) (x : Int) : (dropP a s i x).1 ≤ (dropP a t i x).1 ∧ (dropP a t i x).2 ≤ (dropP a s i x).2 := by
  unfold dropP
  dsimp only
  have r := rsum_nar ok h i ((a.Mine.Roads.f i).Rest.Low, (a.Mine.Roads.f i).Rest.High) a.Doors.n (Nat.le_refl _)
  generalize rsum a.Doors s.Doors i ((a.Mine.Roads.f i).Rest.Low, (a.Mine.Roads.f i).Rest.High) a.Doors.n = b at r ⊢
  generalize rsum a.Doors t.Doors i ((a.Mine.Roads.f i).Rest.Low, (a.Mine.Roads.f i).Rest.High) a.Doors.n = b' at r ⊢
  have q := sqS_wide (lo := b'.1) (hi := b'.2) (lo' := b.1) (hi' := b.2) r.1 r.2 x
  have f := fsum_nar ok h i x ((sqS b.1 b.2 x).1 - (a.Mine.Roads.f i).Lift.High, (sqS b.1 b.2 x).2 - (a.Mine.Roads.f i).Lift.Low) ((sqS b'.1 b'.2 x).1 - (a.Mine.Roads.f i).Lift.High, (sqS b'.1 b'.2 x).2 - (a.Mine.Roads.f i).Lift.Low) a.Fans.n (Nat.le_refl _)
  dsimp only at f
  omega
theorem Nar.ok (ok : RtOK a s) (h : Nar a s t) : RtOK a t := by
  have sf := ok.sf
  have sd := ok.sd
  have fn := h.fn
  have dn := h.dn
  refine ⟨ok.m, ok.nf, ok.nd, by omega, by omega, fun i hi => ⟨(ok.f i hi).1, ?_⟩, fun i hi => ⟨(ok.d i hi).1, ?_⟩⟩
  · have := (ok.f i hi).2
    rcases h.f i (by omega) with e | e <;> omega
  · have := (ok.d i hi).2
    rcases h.d i (by omega) with e | e <;> omega
theorem Nar.right (rt : rightB a s = true) (h : Nar a s t) : rightB a t = true := by
  have ok := h.ok (right_ok rt)
  have p := ok.sf
  have q := ok.sd
  have e := rightB_air rt
  unfold rightB
  rw [if_pos]
  refine ⟨e, p, q, firstN_all fun i _ hi => ?_, firstN_all fun i _ hi => ?_⟩
  · unfold gSf
    rw [if_pos (ok.f i (by omega)).2]
  · unfold gSd
    have := (ok.d i (by omega)).2
    rw [if_pos (by omega)]
theorem fl_nar (ok : RtOK a s) (h : Nar a s t) {i : Nat} (hi : i < a.Mine.Roads.n) (q : Int) : flL a s i q ≤ flL a t i q ∧ flH a t i q ≤ flH a s i q := by
  have d := fun x => drop_nar ok h i x
  have ok' := h.ok ok
  have c1 := (flL_c ok hi q).2.mono (flL_c ok' hi q).2 fun x hx => by have := d x; omega
  have c2 := (flH_c ok' hi q).2.mono (flH_c ok hi q).2 fun x hx => by have := d x; omega
  omega
theorem N_nar (ok : RtOK a s) (h : Nar a s t) (P : Sq Int) (pl p : Int) : NL a s P pl p ≤ NL a t P pl p ∧ NH a t P pl p ≤ NH a s P pl p := by
  unfold NL NH
  refine ⟨sumN_le fun i hi => ?_, sumN_le fun i hi => ?_⟩
  all_goals
    have f1 := fl_nar ok h hi (p - P.f (a.Mine.Roads.f i).To.toNat)
    have f2 := fl_nar ok h hi (P.f (a.Mine.Roads.f i).From.toNat - p)
    first | unfold coL | unfold coH
    by_cases cl : (a.Mine.Roads.f i).Closed = true
    · rw [if_pos cl, if_pos cl]; exact Int.le_refl _
    · rw [if_neg cl, if_neg cl]
      by_cases cF : (a.Mine.Roads.f i).From = pl
      · rw [if_pos cF, if_pos cF]
        first | exact f1.1 | exact f1.2
      · rw [if_neg cF, if_neg cF]
        by_cases cT : (a.Mine.Roads.f i).To = pl
        · rw [if_pos cT, if_pos cT]
          first | exact Int.neg_le_neg f2.2 | exact Int.neg_le_neg f2.1
        · rw [if_neg cT, if_neg cT]; exact Int.le_refl _
/-- What is accepted, is accepted where more is known. -/
theorem certE_nar {b : SBounds} (h : Nar a s t) (z : certE a s b = 0) : certE a t b = 0 := by
  obtain ⟨rt, acc⟩ := certE_ok z
  refine certE_of (h.right rt) acc.ln acc.hn acc.lr acc.hr fun i hi => ?_
  have q := acc.at hi
  have n1 := N_nar acc.r h b.High i (b.High.f i)
  have n2 := N_nar acc.r h b.Low i (b.Low.f i)
  exact ⟨q.1, fun c => by have := q.2 c; omega⟩
theorem flow_nar {b : SBounds} (ok : RtOK a s) (h : Nar a s t) {j : Nat} (hj : j < a.Mine.Roads.n) : (flowP a s b j).Low ≤ (flowP a t b j).Low ∧ (flowP a t b j).High ≤ (flowP a s b j).High := by
  unfold flowP
  split
  · exact ⟨Int.le_refl _, Int.le_refl _⟩
  · split
    · exact ⟨(fl_nar ok h hj _).1, (fl_nar ok h hj _).2⟩
    · exact ⟨Int.le_refl _, Int.le_refl _⟩
end
end Go.Proofs.YtnoeblpanfbpjaaGreat.Ab
