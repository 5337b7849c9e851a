/- Stage 9: what is made fits; Holds. -/
import Derived.Test.YtbmbhgkjpdpcjaaYl6
import Derived.Test.YtbmbhgkjpdpcjaaYu
import Derived.Test.YtbmbhgkjpdpcjaaYz
namespace Go.Proofs.Ytbmbhgkjpdpcjaa.Ab
open Go Go.ChangeShapes Go.WideShapes Go.ChangeAt Go.RowKit Go.Deep Go.Joins

/-! ### What is known only in part holds the truth -/
theorem rs_doubt {r : Sq Int} (ok : RestOK r) {s0 s : Int} (h0 : 0 ≤ s0) (h1 : s0 < r.n) (h : s = s0 ∨ s = -1) : (rsS r s).Low ≤ (rsS r s0).Low ∧ (rsS r s0).Low ≤ (rsS r s).High := by
  have e : rsS r s0 = ⟨r.f s0.toNat, r.f s0.toNat⟩ := if_pos h0
  rcases h with rfl | rfl
  · rw [e]; exact ⟨Int.le_refl _, Int.le_refl _⟩
  · have e1 : rsS r (-1) = ⟨r.f (r.n - 1), r.f 0⟩ := if_neg (by omega)
    have n0 := ok.n0
    have a := ok.dec (r.n - 1 - s0.toNat) s0.toNat (by omega)
    have b := ok.dec s0.toNat 0 (by omega)
    rw [show s0.toNat + (r.n - 1 - s0.toNat) = r.n - 1 by omega] at a
    rw [Nat.zero_add] at b
    rw [e, e1]
    exact ⟨a, b⟩
theorem st_doubt {f : SFan} (ok : okC f.Curve) {s0 s : Int} (h0 : 0 ≤ s0) (h1 : s0 ≤ 2) (h : s = s0 ∨ s = -1) (x : Int) : (stS f s x).Low ≤ (stS f s0 x).Low ∧ (stS f s0 x).Low ≤ (stS f s x).High := by
  have a := blow_ok ok f.Back x
  have b := blow_ok ok (!f.Back) x
  rcases h with rfl | rfl
  · refine ⟨Int.le_refl _, ?_⟩
    unfold stS
    split
    · exact Int.le_refl _
    · rw [show (if s = 1 then blowS f.Curve f.Back x else if s = 2 then blowS f.Curve (!f.Back) x else _) = if s = 1 then blowS f.Curve f.Back x else blowS f.Curve (!f.Back) x from by
        split
        · rfl
        · rw [if_pos (by omega)]]
      split <;> omega
  · have e : stS f (-1) x = ⟨minI (minI 0 (blowS f.Curve f.Back x).Low) (blowS f.Curve (!f.Back) x).Low, maxI (maxI 0 (blowS f.Curve f.Back x).High) (blowS f.Curve (!f.Back) x).High⟩ := by
      unfold stS
      rw [if_neg (by omega), if_neg (by omega), if_neg (by omega)]
    rw [e]
    have l : (stS f s0 x).Low = 0 ∨ (stS f s0 x).Low = (blowS f.Curve f.Back x).Low ∨ (stS f s0 x).Low = (blowS f.Curve (!f.Back) x).Low := by
      unfold stS
      by_cases c0 : s0 = 0
      · rw [if_pos c0]; exact .inl rfl
      · rw [if_neg c0]
        by_cases c1 : s0 = 1
        · rw [if_pos c1]; exact .inr (.inl rfl)
        · rw [if_neg c1, if_pos (by omega)]; exact .inr (.inr rfl)
    dsimp only
    unfold minI maxI
    constructor
    all_goals (repeat' split)
    all_goals omega
theorem rsum_doubt {D : Sq SDoor} {s0 s : Sq Int} {nr : Nat} (h : DsD D s0 nr) (hd : DbD s0 s) (road : Int) {b : Int × Int} {c : Int} (h1 : b.1 ≤ c) (h2 : c ≤ b.2) : ∀ k, k ≤ D.n → (rsum D s road b k).1 ≤ (rsum D s0 road (c, 0) k).1 ∧ (rsum D s0 road (c, 0) k).1 ≤ (rsum D s road b k).2 := by
  have hn := h.n
  intro k
  induction k with
  | zero => intro _; exact ⟨h1, h2⟩
  | succ k ih =>
    intro hk
    have i := ih (by omega)
    obtain ⟨d1, d2, d3⟩ := h.f k (by omega)
    have q := rs_doubt (d1.c.ok d1.n0 d1.n1) d2 d3 (hd.f k (by omega))
    unfold rsum
    split
    · dsimp only; omega
    · exact i
theorem fsum_doubt {F : Sq SFan} {s0 s : Sq Int} {nr : Nat} (h : FsD F s0 nr) (hd : DbD s0 s) (road x : Int) (b b' : Int × Int) : ∀ k, k ≤ F.n → (fsum F s road x b k).1 - b.1 ≤ (fsum F s0 road x b' k).2 - b'.2 ∧ (fsum F s0 road x b' k).2 - b'.2 ≤ (fsum F s road x b k).2 - b.2 := by
  have hn := h.n
  intro k
  induction k with
  | zero => intro _; show b.1 - b.1 ≤ b'.2 - b'.2 ∧ b'.2 - b'.2 ≤ b.2 - b.2; omega
  | succ k ih =>
    intro hk
    have i := ih (by omega)
    obtain ⟨d1, d2, d3⟩ := h.f k (by omega)
    have q := st_doubt (d1.c.ok d1.n) d2 d3 (hd.f k (by omega)) x
    unfold fsum
    split
    · dsimp only; omega
    · exact i
theorem sgn_in {lo hi B x : Int} (h1 : lo ≤ B) (h2 : B ≤ hi) : (sqS lo hi x).1 ≤ sgn B x ∧ sgn B x ≤ (sqS lo hi x).2 := by
  have hx : 0 ≤ x * x := by
    rcases Int.le_total 0 x with h | h
    · exact Int.mul_nonneg h h
    · exact Int.mul_nonneg_of_nonpos_of_nonpos h h
  have a := Int.mul_le_mul_of_nonneg_right h1 hx
  have b := Int.mul_le_mul_of_nonneg_right h2 hx
  unfold sqS sgn
  split
  · dsimp only; omega
  · dsimp only; omega
/-- What is made fits. -/
theorem MdD.fits {a : SAir} {s : SSetting} {x : SState} (h : MdD a s x) {j : Nat} (hj : j < a.Mine.Roads.n) :
    (dropP a s j (x.Flows.f j)).1 ≤ x.Pressures.f (a.Mine.Roads.f j).From.toNat - x.Pressures.f (a.Mine.Roads.f j).To.toNat ∧ x.Pressures.f (a.Mine.Roads.f j).From.toNat - x.Pressures.f (a.Mine.Roads.f j).To.toNat ≤ (dropP a s j (x.Flows.f j)).2 := by
  obtain ⟨sh, s0, _, _, _, _, _, hE, dF, dD, hL⟩ := h.e
  obtain ⟨re, u, v, r0, r1, u0, _, v0, _, e⟩ := (hL j hj).e
  have m1 := rsum_doubt hE.d dD j (b := ((a.Mine.Roads.f j).Rest.Low, (a.Mine.Roads.f j).Rest.High)) (c := re) r0 r1 a.Doors.n (Nat.le_refl _)
  have m2 := sgn_in (x := x.Flows.f j) m1.1 m1.2
  unfold dropP
  dsimp only
  rw [e]
  dsimp only
  generalize rsum a.Doors s.Doors j ((a.Mine.Roads.f j).Rest.Low, (a.Mine.Roads.f j).Rest.High) a.Doors.n = b at m2 ⊢
  generalize sgn (rsum a.Doors s0.Doors j (re, 0) a.Doors.n).1 (x.Flows.f j) = g at m2 ⊢
  generalize x.Pressures.f (a.Mine.Roads.f j).From.toNat - x.Pressures.f (a.Mine.Roads.f j).To.toNat = d
  have m3 := fsum_doubt hE.f dF j (x.Flows.f j) ((sqS b.1 b.2 (x.Flows.f j)).1 - ((fsum a.Fans s0.Fans j (x.Flows.f j) (0, g - d) a.Fans.n).2 + v), (sqS b.1 b.2 (x.Flows.f j)).2 - ((fsum a.Fans s0.Fans j (x.Flows.f j) (0, g - d) a.Fans.n).2 - u)) (0, g - d) a.Fans.n (Nat.le_refl _)
  dsimp only at m3
  omega
/-! ### At the ends -/
theorem stS_small2 {f : SFan} {nr : Nat} (h : FnD f nr) (st : Int) (x : Int) : -3000 ≤ (stS f st x).Low ∧ (stS f st x).Low ≤ (stS f st x).High ∧ (stS f st x).High ≤ 3000 := by
  have ok := h.c.ok h.n
  have hM : ∀ i, i < f.Curve.n → (f.Curve.f i).Pressure ≤ 3000 := fun i hi => (h.c.f i hi).2.2.2
  have a := blow_small ok hM f.Back x
  have b := blow_small ok hM (!f.Back) x
  unfold stS
  split
  · dsimp only; omega
  · split
    · omega
    · split
      · omega
      · dsimp only
        unfold minI maxI
        refine ⟨?_, ?_, ?_⟩
        all_goals (repeat' split)
        all_goals omega
theorem fsum_small2 {F : Sq SFan} {s0 : Sq Int} {nr : Nat} (h : FsD F s0 nr) (s : Sq Int) (road x : Int) (b : Int × Int) : ∀ k, k ≤ F.n → b.1 - 3000 * (k : Int) ≤ (fsum F s road x b k).1 ∧ (fsum F s road x b k).2 ≤ b.2 + 3000 * (k : Int) := by
  intro k
  induction k with
  | zero => intro _; show b.1 - _ ≤ b.1 ∧ b.2 ≤ _; omega
  | succ k ih =>
    intro hk
    have i := ih (by omega)
    have q := stS_small2 (h.f k (by omega)).1 (s.f k) x
    unfold fsum
    split
    · dsimp only; omega
    · omega
theorem MdD.ends {a : SAir} {s : SSetting} {x : SState} (h : MdD a s x) {j : Nat} (hj : j < a.Mine.Roads.n) : (dropP a s j (-1048577)).2 < -100000 ∧ 100000 < (dropP a s j 1048577).1 := by
  have ok := right_ok h.right
  obtain ⟨sh, s0, _, _, _, _, hq, hE, dF, dD, hL⟩ := h.e
  have hfn := hE.fn
  obtain ⟨r1, r2, r3, _⟩ := road_rest ok.m hj
  have q := rsum_in ok j (b := ((a.Mine.Roads.f j).Rest.Low, (a.Mine.Roads.f j).Rest.High)) r1 r2 r3 a.Doors.n (Nat.le_refl _)
  have l0 := (hL j hj).l0
  have l1 := (hL j hj).l1
  have l2 := (hL j hj).l2
  unfold dropP
  dsimp only
  generalize rsum a.Doors s.Doors j ((a.Mine.Roads.f j).Rest.Low, (a.Mine.Roads.f j).Rest.High) a.Doors.n = b at q ⊢
  have f1 := fsum_small2 hE.f s.Fans j (-1048577) ((sqS b.1 b.2 (-1048577)).1 - (a.Mine.Roads.f j).Lift.High, (sqS b.1 b.2 (-1048577)).2 - (a.Mine.Roads.f j).Lift.Low) a.Fans.n (Nat.le_refl _)
  have f2 := fsum_small2 hE.f s.Fans j 1048577 ((sqS b.1 b.2 1048577).1 - (a.Mine.Roads.f j).Lift.High, (sqS b.1 b.2 1048577).2 - (a.Mine.Roads.f j).Lift.Low) a.Fans.n (Nat.le_refl _)
  have e1 : (sqS b.1 b.2 (-1048577)).2 = -(b.1 * 1099513724929) := by
    unfold sqS
    rw [if_pos (by omega)]
    show -(b.1 * (-1048577 * -1048577)) = _
    rw [show (-1048577 * -1048577 : Int) = 1099513724929 by omega]
  have e2 : (sqS b.1 b.2 1048577).1 = b.1 * 1099513724929 := by
    unfold sqS
    rw [if_neg (by omega)]
    show b.1 * (1048577 * 1048577) = _
    rw [show (1048577 * 1048577 : Int) = 1099513724929 by omega]
  dsimp only at f1 f2
  rw [e1] at f1 ⊢
  rw [e2] at f2 ⊢
  omega
/-! ### Holds -/
theorem branchHolds_true (codes : Sq Int) (hb : ∀ k, 0 ≤ codes.f k ∧ codes.f k ≤ 255) (road pressure : Int) : (law09_BranchHolds_t codes road pressure).get = some true := by
  obtain ⟨c, e0, hc⟩ := New_ex codes hb
  obtain ⟨a, s, x, b, e1, b0, b1, md⟩ := Codes_Made_ex hc
  have hnr := md.nr
  have hr := md.right
  have ok := right_ok hr
  obtain ⟨sh, s0, _, _, hP, hp, hq, hE, _⟩ := md.e
  have hqn := hq.qn
  have hpn := hp.nn
  unfold law09_BranchHolds_t
  rw [get_bind e0, get_bind e1]
  dsimp only
  have key : law09_BranchHolds_l3 road pressure a.Mine.Places a.Mine.Roads a.Fans a.Doors s.Fans s.Doors x.Pressures x.Flows 0 = some (.inl ()) := by
    rw [law09_BranchHolds_l3_eq]
    refine (loop_first (step := fun v => law09_BranchHolds_l3_step road pressure a.Mine.Places a.Mine.Roads a.Fans a.Doors s.Fans s.Doors x.Pressures x.Flows v) (n := a.Mine.Roads.n) (fun _ => none) (fun i hi => ?_) ?_ a.Mine.Roads.n 0 (Nat.zero_add _)).trans ?_
    · unfold law09_BranchHolds_l3_step
      have rd := hq.r i hi
      obtain ⟨a1, a2, a3, a4, a5, _, a7, a8, a9⟩ := rd
      have pF := hp.f (a.Mine.Roads.f i).From.toNat (by omega)
      have pT := hp.f (a.Mine.Roads.f i).To.toNat (by omega)
      have ft := md.fits hi
      rw [get_t (dlt hi), get_t (dix hi), toNat_nat, get_t (decide_eq_true ⟨by omega, by omega⟩), get_t (decide_eq_true ⟨by omega, by omega⟩), wr_ok (x := x.Pressures.f (a.Mine.Roads.f i).From.toNat - x.Pressures.f (a.Mine.Roads.f i).To.toNat) (by omega) (by omega)]
      rcases branch_Flow_ex a s i (x.Pressures.f (a.Mine.Roads.f i).From.toNat - x.Pressures.f (a.Mine.Roads.f i).To.toNat) with ⟨op, S, f1, g1⟩ | ⟨no, f1⟩
      · rw [toNat_nat] at g1
        have c1 := g1.l.lo
        have c2 := g1.l.hi
        have c3 := g1.h.lo
        have c4 := g1.h.hi
        have k1 : ¬ x.Flows.f i < S.Low := by
          intro q
          have d1 := g1.l.f S.Low (by omega) (by omega)
          have d2 := (dropP_lt ok hi (x := x.Flows.f i) (y := S.Low) (by omega) q (by omega)).2
          omega
        have k2 : ¬ x.Flows.f i > S.High := by
          intro q
          have d1 := g1.h.t S.High (Int.le_refl _) (by omega)
          have d2 := (dropP_lt ok hi (x := S.High) (y := x.Flows.f i) (by omega) q (by omega)).1
          omega
        rw [get_bind f1, get_t (dix (by omega)), get_f (decide_eq_false k1), get_t (dix (by omega)), get_f (decide_eq_false k2), wr_next (by omega)]
        rfl
      · have cl : (a.Mine.Roads.f i).Closed = true := by
          cases hcl : (a.Mine.Roads.f i).Closed with
          | true => rfl
          | false => exact absurd ⟨hr, by omega, by omega, by rw [toNat_nat]; exact hcl⟩ no
        have z := a9 cl
        rw [get_bind f1, get_t (dix (by omega)), get_f (decide_eq_false (show ¬ x.Flows.f i < (SSpan.mk 0 0).Low from by rw [z]; exact Int.lt_irrefl _)), get_t (dix (by omega)), get_f (decide_eq_false (show ¬ x.Flows.f i > (SSpan.mk 0 0).High from by rw [z]; exact Int.lt_irrefl _)), wr_next (by omega)]
        rfl
    · unfold law09_BranchHolds_l3_step
      rw [get_f (dge (Nat.le_refl _))]; rfl
    · rw [firstN_all fun _ _ _ => rfl]
  rw [get_sum key]
  dsimp only [Sum.elim]
  by_cases hz : a.Mine.Roads.n = 0
  · rw [get_t (by simp [hz])]; rfl
  obtain ⟨v1, e3, _, k1⟩ := Mod_ex road (a.Mine.Roads.n : Int) (by omega)
  have k1 := k1 (by omega)
  have hi : v1.toNat < a.Mine.Roads.n := by omega
  rw [get_f (by simp [hz]), get_bind e3, get_t (decide_eq_true k1)]
  cases hcl : (a.Mine.Roads.f v1.toNat).Closed with
  | true => rw [get_t rfl]; rfl
  | false =>
    have op : opB a s v1 := ⟨hr, k1.1, by omega, hcl⟩
    obtain ⟨v2, e4, _, k2⟩ := Mod_ex pressure 200000 (by omega)
    have k2 := k2 (by omega)
    rw [get_f rfl, get_bind e4, wr_ok (x := v2 - 100000) (by omega) (by omega)]
    obtain ⟨p, hp⟩ : ∃ p : Int, p = v2 - 100000 := ⟨_, rfl⟩
    rw [← hp]
    have en := md.ends hi
    rcases branch_Flow_ex a s v1 p with ⟨_, S, f1, g1⟩ | ⟨no, _⟩
    · have c1 := g1.l.lo
      have c2 := g1.l.hi
      have c3 := g1.h.lo
      have c4 := g1.h.hi
      have kA : (spS (dropP a s v1.toNat S.Low)).High ≤ p := by
        show (dropP a s v1.toNat S.Low).2 ≤ p
        by_cases c : S.Low = -1048577
        · rw [c]; omega
        · have := g1.l.f S.Low (by omega) (by omega)
          omega
      have kB : (spS (dropP a s v1.toNat (S.Low + 1))).High > p := by
        show (dropP a s v1.toNat (S.Low + 1)).2 > p
        by_cases c : S.Low + 1 = 1048577
        · have := dropP_in ok hi (x := 1048577) (by omega) (by omega)
          rw [c]; omega
        · exact g1.l.t (S.Low + 1) (Int.le_refl _) (by omega)
      have kC : (spS (dropP a s v1.toNat S.High)).Low ≥ p := by
        show (dropP a s v1.toNat S.High).1 ≥ p
        by_cases c : S.High = 1048577
        · rw [c]; omega
        · exact g1.h.t S.High (Int.le_refl _) (by omega)
      have kD : (spS (dropP a s v1.toNat (S.High - 1))).Low < p := by
        show (dropP a s v1.toNat (S.High - 1)).1 < p
        by_cases c : S.High - 1 = -1048577
        · have := dropP_in ok hi (x := -1048577) (by omega) (by omega)
          rw [c]; omega
        · have := g1.h.f (S.High - 1) (by omega) (by omega)
          omega
      rw [get_bind f1, get_bind (branch_Drop_v a s v1 S.Low), dropV_t op (by omega) (by omega), get_t (decide_eq_true kA), wr_ok (x := S.Low + 1) (by omega) (by omega),
        get_bind (branch_Drop_v a s v1 (S.Low + 1)), dropV_t op (by omega) (by omega), get_t (decide_eq_true kB),
        get_bind (branch_Drop_v a s v1 S.High), dropV_t op (by omega) (by omega), get_t (decide_eq_true kC), wr_ok (x := S.High - 1) (by omega) (by omega),
        get_bind (branch_Drop_v a s v1 (S.High - 1)), dropV_t op (by omega) (by omega), get_t (decide_eq_true kD)]
      rfl
    · exact absurd op no
theorem branchHolds_calls (codes : Sq Int) (hb : ∀ k, 0 ≤ codes.f k ∧ codes.f k ≤ 255) (road pressure : Int) {w : World} {vs : Array Value} (hl : vs.size = 3)
    (hv : ∀ j, j < 3 → ∀ (M : Nat → Prop) (σ : Nat → Value) (V : Nat → Option Nat), (∀ g, ¬ M g) → VR w M σ V ((law09_BranchHolds_encC codes road pressure).1.getD j .undef) (vs.getD j undef)) : Calls Try.prog 8 vs w fun e w' => e = .returned (.bool true) ∧ Below w.heap.size w w' :=
  law_told law09_BranchHolds_tells law09_BranchHolds_inj rfl (codes, road, pressure) rfl (branchHolds_true codes hb road pressure) hl hv
end Go.Proofs.Ytbmbhgkjpdpcjaa.Ab
