/- Stage 9: Doors. -/
import Derived.Test.YtbmbhgkjpdpcjaaYl7
import Derived.Test.YtbmbhgkjpdpcjaaYu
import Derived.Test.YtbmbhgkjpdpcjaaYz
namespace Go.Proofs.Ytbmbhgkjpdpcjaa.Ab
open Go Go.ChangeShapes Go.WideShapes Go.ChangeAt Go.RowKit Go.Deep Go.Joins

theorem door_app {n k : Nat} {D : Nat → SDoor} {d : SDoor} : (SDoor.mk (cond (Nat.blt k n) (D k).Road d.Road) (cond (Nat.blt k n) (D k).Other d.Other) (Sq.mk (cond (Nat.blt k n) (D k).Rests.n d.Rests.n) (fun j => (cond (Nat.blt k n) ((D k).Rests.f j) (d.Rests.f j))))) = if k < n then D k else d := by
  by_cases h : k < n
  · rw [blt_t h, if_pos h]; rfl
  · rw [blt_f (by omega), if_neg h]; rfl
/-- One door in two states: all of it. -/
theorem rsum_le {D : Sq SDoor} {s t : Sq Int} (road : Int) (b : Int × Int) : ∀ k, (∀ j, j < k → (rsS (D.f j).Rests (s.f j)).Low ≤ (rsS (D.f j).Rests (t.f j)).Low) → (rsum D s road b k).1 ≤ (rsum D t road b k).1 := by
  intro k
  induction k with
  | zero => intro _; exact Int.le_refl _
  | succ k ih =>
    intro h
    have i := ih fun j hj => h j (by omega)
    have q := h k (by omega)
    unfold rsum
    split
    · dsimp only; omega
    · exact i
theorem rsum_le2 {D : Sq SDoor} {s t : Sq Int} (road : Int) (b : Int × Int) : ∀ k, (∀ j, j < k → (rsS (D.f j).Rests (s.f j)).High ≤ (rsS (D.f j).Rests (t.f j)).High) → (rsum D s road b k).2 ≤ (rsum D t road b k).2 := by
  intro k
  induction k with
  | zero => intro _; exact Int.le_refl _
  | succ k ih =>
    intro h
    have i := ih fun j hj => h j (by omega)
    have q := h k (by omega)
    unfold rsum
    split
    · dsimp only; omega
    · exact i
theorem fsum_shift (F : Sq SFan) (s : Sq Int) (road x : Int) (b b' : Int × Int) : ∀ k, (fsum F s road x b k).1 - b.1 = (fsum F s road x b' k).1 - b'.1 ∧ (fsum F s road x b k).2 - b.2 = (fsum F s road x b' k).2 - b'.2 := by
  intro k
  induction k with
  | zero => show b.1 - b.1 = b'.1 - b'.1 ∧ b.2 - b.2 = b'.2 - b'.2; omega
  | succ k ih =>
    unfold fsum
    split
    · dsimp only; omega
    · exact ih
/-- What differs where only the doors' states do. -/
theorem dropP_diff (a : SAir) (F sD tD : Sq Int) (i : Nat) (x : Int) :
    (dropP a ⟨F, sD⟩ i x).1 - (dropP a ⟨F, tD⟩ i x).1 = (sqS (rsum a.Doors sD i ((a.Mine.Roads.f i).Rest.Low, (a.Mine.Roads.f i).Rest.High) a.Doors.n).1 (rsum a.Doors sD i ((a.Mine.Roads.f i).Rest.Low, (a.Mine.Roads.f i).Rest.High) a.Doors.n).2 x).1 - (sqS (rsum a.Doors tD i ((a.Mine.Roads.f i).Rest.Low, (a.Mine.Roads.f i).Rest.High) a.Doors.n).1 (rsum a.Doors tD i ((a.Mine.Roads.f i).Rest.Low, (a.Mine.Roads.f i).Rest.High) a.Doors.n).2 x).1 ∧
    (dropP a ⟨F, sD⟩ i x).2 - (dropP a ⟨F, tD⟩ i x).2 = (sqS (rsum a.Doors sD i ((a.Mine.Roads.f i).Rest.Low, (a.Mine.Roads.f i).Rest.High) a.Doors.n).1 (rsum a.Doors sD i ((a.Mine.Roads.f i).Rest.Low, (a.Mine.Roads.f i).Rest.High) a.Doors.n).2 x).2 - (sqS (rsum a.Doors tD i ((a.Mine.Roads.f i).Rest.Low, (a.Mine.Roads.f i).Rest.High) a.Doors.n).1 (rsum a.Doors tD i ((a.Mine.Roads.f i).Rest.Low, (a.Mine.Roads.f i).Rest.High) a.Doors.n).2 x).2 := by
  unfold dropP
  dsimp only
  generalize rsum a.Doors sD i ((a.Mine.Roads.f i).Rest.Low, (a.Mine.Roads.f i).Rest.High) a.Doors.n = b
  generalize rsum a.Doors tD i ((a.Mine.Roads.f i).Rest.Low, (a.Mine.Roads.f i).Rest.High) a.Doors.n = c
  have q := fsum_shift a.Fans F i x ((sqS b.1 b.2 x).1 - (a.Mine.Roads.f i).Lift.High, (sqS b.1 b.2 x).2 - (a.Mine.Roads.f i).Lift.Low) ((sqS c.1 c.2 x).1 - (a.Mine.Roads.f i).Lift.High, (sqS c.1 c.2 x).2 - (a.Mine.Roads.f i).Lift.Low) a.Fans.n
  dsimp only at q
  omega
theorem sq_nonneg (x : Int) : 0 ≤ x * x := by
  rcases Int.le_total 0 x with h | h
  · exact Int.mul_nonneg h h
  · exact Int.mul_nonneg_of_nonpos_of_nonpos h h
/-- Wider resistance, wider difference. -/
theorem sqS_wide {l h l' h' : Int} (x : Int) (h1 : l' ≤ l) (h2 : h ≤ h') : (sqS l' h' x).1 ≤ (sqS l h x).1 ∧ (sqS l h x).2 ≤ (sqS l' h' x).2 := by
  have a := Int.mul_le_mul_of_nonneg_right h1 (sq_nonneg x)
  have b := Int.mul_le_mul_of_nonneg_right h2 (sq_nonneg x)
  unfold sqS
  split <;> (dsimp only; omega)
theorem sqS_less {l h l' h' : Int} (x : Int) (h1 : l' ≤ l) (h2 : h' ≤ h) : (0 ≤ x → (sqS l' h' x).1 ≤ (sqS l h x).1 ∧ (sqS l' h' x).2 ≤ (sqS l h x).2) ∧ (x < 0 → (sqS l h x).1 ≤ (sqS l' h' x).1 ∧ (sqS l h x).2 ≤ (sqS l' h' x).2) := by
  have a := Int.mul_le_mul_of_nonneg_right h1 (sq_nonneg x)
  have b := Int.mul_le_mul_of_nonneg_right h2 (sq_nonneg x)
  unfold sqS
  refine ⟨fun c => ?_, fun c => ?_⟩
  · rw [if_neg (by omega), if_neg (by omega)]; dsimp only; omega
  · rw [if_pos c, if_pos c]; dsimp only; omega
structure D3 (a : SAir) (T1 T2 T3 : SSetting) (i : Nat) : Prop where
  w1 : ∀ x, (dropP a T3 i x).1 ≤ (dropP a T1 i x).1 ∧ (dropP a T1 i x).2 ≤ (dropP a T3 i x).2
  w2 : ∀ x, (dropP a T3 i x).1 ≤ (dropP a T2 i x).1 ∧ (dropP a T2 i x).2 ≤ (dropP a T3 i x).2
  p : ∀ x, 0 ≤ x → (dropP a T2 i x).1 ≤ (dropP a T1 i x).1 ∧ (dropP a T2 i x).2 ≤ (dropP a T1 i x).2
  m : ∀ x, x < 0 → (dropP a T1 i x).1 ≤ (dropP a T2 i x).1 ∧ (dropP a T1 i x).2 ≤ (dropP a T2 i x).2
theorem D3.flows {a : SAir} {T1 T2 T3 : SSetting} {i : Nat} (h : D3 a T1 T2 T3 i) {p : Int} {F1 F2 F3 : SSpan} (h1 : FlowC a T1 i p F1) (h2 : FlowC a T2 i p F2) (h3 : FlowC a T3 i p F3) :
    (F1.Low > 0 → F1.Low ≤ F2.Low) ∧ (F1.High < 0 → F2.High ≤ F1.High) ∧ F3.Low ≤ F1.Low ∧ F3.Low ≤ F2.Low ∧ F1.High ≤ F3.High ∧ F2.High ≤ F3.High := by
  have a1 := h1.l.lo
  have a2 := h1.l.hi
  have a3 := h1.h.lo
  have a4 := h1.h.hi
  have b1 := h2.l.lo
  have b2 := h2.l.hi
  have b3 := h2.h.lo
  have b4 := h2.h.hi
  refine ⟨fun c => ?_, fun c => ?_, ?_, ?_, ?_, ?_⟩
  · rcases Int.lt_or_le F2.Low F1.Low with d | d
    · have x1 := h1.l.f F1.Low (by omega) (by omega)
      have x2 := h2.l.t F1.Low (by omega) (by omega)
      have := (h.p F1.Low (by omega)).2
      omega
    · exact d
  · rcases Int.lt_or_le F1.High F2.High with d | d
    · have x1 := h1.h.t F1.High (Int.le_refl _) (by omega)
      have x2 := h2.h.f F1.High (by omega) d
      have := (h.m F1.High c).1
      omega
    · exact d
  · have := h3.l.mono h1.l (fun x hx => by have := (h.w1 x).2; omega)
    omega
  · have := h3.l.mono h2.l (fun x hx => by have := (h.w2 x).2; omega)
    omega
  · exact h1.h.mono h3.h (fun x hx => by have := (h.w1 x).1; omega)
  · exact h2.h.mono h3.h (fun x hx => by have := (h.w2 x).1; omega)
/-- The states of the last door. -/
def lastS (t : Sq Int) (n : Nat) (v : Int) : Sq Int := ⟨t.n, fun k => cond (Nat.beq k n) v (t.f k)⟩
theorem d3_of {a : SAir} {F t : Sq Int} {n : Nat} (_ : a.Doors.n = n + 1) (ok : RestOK (a.Doors.f n).Rests) {v : Int} (h0 : 0 ≤ v) (h1 : v + 1 < (a.Doors.f n).Rests.n) (i : Nat) {T2 T3 : Sq Int} (e2 : ∀ k, T2.f k = cond (Nat.beq k n) (v + 1) (t.f k)) (e3 : ∀ k, T3.f k = cond (Nat.beq k n) (-1) (t.f k)) :
    D3 a ⟨F, lastS t n v⟩ ⟨F, T2⟩ ⟨F, T3⟩ i := by
  have v1 : rsS (a.Doors.f n).Rests v = ⟨(a.Doors.f n).Rests.f v.toNat, (a.Doors.f n).Rests.f v.toNat⟩ := if_pos h0
  have v2 : rsS (a.Doors.f n).Rests (v + 1) = ⟨(a.Doors.f n).Rests.f (v + 1).toNat, (a.Doors.f n).Rests.f (v + 1).toNat⟩ := if_pos (by omega)
  have v3 : rsS (a.Doors.f n).Rests (-1) = ⟨(a.Doors.f n).Rests.f ((a.Doors.f n).Rests.n - 1), (a.Doors.f n).Rests.f 0⟩ := if_neg (by omega)
  have m := ok.m (v + 1).toNat (by omega) (by omega)
  rw [show (v + 1).toNat - 1 = v.toNat by omega] at m
  have q1 := ok.dec v.toNat 0 (by omega)
  rw [Nat.zero_add] at q1
  have q2 := ok.dec ((a.Doors.f n).Rests.n - 1 - (v + 1).toNat) (v + 1).toNat (by omega)
  rw [show (v + 1).toNat + ((a.Doors.f n).Rests.n - 1 - (v + 1).toNat) = (a.Doors.f n).Rests.n - 1 by omega] at q2
  have cmp : ∀ (s s' : Sq Int) (u u' : Int), (∀ k, s.f k = cond (Nat.beq k n) u (t.f k)) → (∀ k, s'.f k = cond (Nat.beq k n) u' (t.f k)) → ∀ (R : SSpan → SSpan → Prop), (∀ x, R x x) → R (rsS (a.Doors.f n).Rests u) (rsS (a.Doors.f n).Rests u') → ∀ j, R (rsS (a.Doors.f j).Rests (s.f j)) (rsS (a.Doors.f j).Rests (s'.f j)) := by
    intro s s' u u' hs hs' R hR hu j
    rw [hs, hs']
    by_cases c : j = n
    · rw [beq_t c, c]; exact hu
    · rw [beq_f c]; exact hR _
  have e1 : ∀ k, (lastS t n v).f k = cond (Nat.beq k n) v (t.f k) := fun _ => rfl
  have lw := fun (s s' : Sq Int) (h : ∀ j, (rsS (a.Doors.f j).Rests (s.f j)).Low ≤ (rsS (a.Doors.f j).Rests (s'.f j)).Low) => rsum_le (D := a.Doors) (s := s) (t := s') i ((a.Mine.Roads.f i).Rest.Low, (a.Mine.Roads.f i).Rest.High) a.Doors.n fun j _ => h j
  have hg := fun (s s' : Sq Int) (h : ∀ j, (rsS (a.Doors.f j).Rests (s.f j)).High ≤ (rsS (a.Doors.f j).Rests (s'.f j)).High) => rsum_le2 (D := a.Doors) (s := s) (t := s') i ((a.Mine.Roads.f i).Rest.Low, (a.Mine.Roads.f i).Rest.High) a.Doors.n fun j _ => h j
  have l31 := lw T3 (lastS t n v) (cmp _ _ _ _ e3 e1 (fun x y => x.Low ≤ y.Low) (fun _ => Int.le_refl _) (by rw [v3, v1]; dsimp only; omega))
  have h13 := hg (lastS t n v) T3 (cmp _ _ _ _ e1 e3 (fun x y => x.High ≤ y.High) (fun _ => Int.le_refl _) (by rw [v3, v1]; dsimp only; omega))
  have l32 := lw T3 T2 (cmp _ _ _ _ e3 e2 (fun x y => x.Low ≤ y.Low) (fun _ => Int.le_refl _) (by rw [v3, v2]; dsimp only; omega))
  have h23 := hg T2 T3 (cmp _ _ _ _ e2 e3 (fun x y => x.High ≤ y.High) (fun _ => Int.le_refl _) (by rw [v3, v2]; dsimp only; omega))
  have l21 := lw T2 (lastS t n v) (cmp _ _ _ _ e2 e1 (fun x y => x.Low ≤ y.Low) (fun _ => Int.le_refl _) (by rw [v2, v1]; dsimp only; omega))
  have h21 := hg T2 (lastS t n v) (cmp _ _ _ _ e2 e1 (fun x y => x.High ≤ y.High) (fun _ => Int.le_refl _) (by rw [v2, v1]; dsimp only; omega))
  refine ⟨fun x => ?_, fun x => ?_, fun x c => ?_, fun x c => ?_⟩
  · have d := dropP_diff a F T3 (lastS t n v) i x
    have w := sqS_wide x l31 h13
    omega
  · have d := dropP_diff a F T3 T2 i x
    have w := sqS_wide x l32 h23
    omega
  · have d := dropP_diff a F T2 (lastS t n v) i x
    have w := (sqS_less x l21 h21).1 c
    omega
  · have d := dropP_diff a F T2 (lastS t n v) i x
    have w := (sqS_less x l21 h21).2 c
    omega
/-- What the law asks of a door that is added. -/
theorem doors_any {A : SAir} {T1 T2 T3 : SSetting} {r : Int} (h1 : rightB A T1 = true) (h2 : rightB A T2 = true) (h3 : rightB A T3 = true) (r0 : 0 ≤ r) (r1 : r < A.Mine.Roads.n) (h : D3 A T1 T2 T3 r.toNat) (p : Int) :
    ∃ F1 F2 F3, branch_Flow A T1 r p = some F1 ∧ branch_Flow A T2 r p = some F2 ∧ branch_Flow A T3 r p = some F3 ∧ ((F1.Low > 0 → F1.Low ≤ F2.Low) ∧ (F1.High < 0 → F2.High ≤ F1.High) ∧ F3.Low ≤ F1.Low ∧ F3.Low ≤ F2.Low ∧ F1.High ≤ F3.High ∧ F2.High ≤ F3.High) ∧
      ∀ x, -1048577 ≤ x → x ≤ 1048577 → (dropV A T3 r x).Low ≤ (dropV A T1 r x).Low ∧ (dropV A T1 r x).High ≤ (dropV A T3 r x).High := by
  cases hcl : (A.Mine.Roads.f r.toNat).Closed with
  | true =>
    have no : ∀ T, ¬ opB A T r := fun T q => by have := q.2.2.2; rw [hcl] at this; cases this
    have e : ∀ T, branch_Flow A T r p = some ⟨0, 0⟩ := fun T => by
      rcases branch_Flow_ex A T r p with ⟨q, _⟩ | ⟨_, e⟩
      · exact absurd q (no T)
      · exact e
    have d : ∀ T x, dropV A T r x = ⟨0, 0⟩ := fun T x => if_neg fun q => no T q.1
    refine ⟨_, _, _, e T1, e T2, e T3, by dsimp only; omega, fun x _ _ => ?_⟩
    rw [d, d]; dsimp only; omega
  | false =>
    have op : ∀ {T}, rightB A T = true → opB A T r := fun hT => ⟨hT, r0, r1, hcl⟩
    rcases branch_Flow_ex A T1 r p with ⟨_, F1, e1, c1⟩ | ⟨q, _⟩
    · rcases branch_Flow_ex A T2 r p with ⟨_, F2, e2, c2⟩ | ⟨q, _⟩
      · rcases branch_Flow_ex A T3 r p with ⟨_, F3, e3, c3⟩ | ⟨q, _⟩
        · refine ⟨F1, F2, F3, e1, e2, e3, h.flows c1 c2 c3, fun x x0 x1 => ?_⟩
          rw [dropV_t (op h3) x0 x1, dropV_t (op h1) x0 x1]
          exact h.w1 x
        · exact absurd (op h3) q
      · exact absurd (op h2) q
    · exact absurd (op h1) q
theorem branchDoors_true (codes : Sq Int) (hb : ∀ k, 0 ≤ codes.f k ∧ codes.f k ≤ 255) (door state pressure flow : Int) : (law09_BranchDoors_t codes door state pressure flow).get = some true := by
  obtain ⟨c, e0, hc⟩ := New_ex codes hb
  obtain ⟨a, s, x, b, e1, b0, b1, md⟩ := Codes_Made_ex hc
  have hnr := md.nr
  have hdn := md.dn
  obtain ⟨sh, s0, _, _, _, _, _, hE, _⟩ := md.e
  have hfn := hE.fn
  unfold law09_BranchDoors_t
  rw [get_bind e0, get_bind e1]
  dsimp only
  by_cases hz : a.Mine.Roads.n = 0
  · rw [get_t (by simp [hz])]; rfl
  obtain ⟨v1, e3, _, k1⟩ := Mod_ex door (a.Mine.Roads.n : Int) (by omega)
  have k1 := k1 (by omega)
  obtain ⟨d, b2, e4, l2, u2, dr, dO, dD, dn0, dn1⟩ := Codes_Door_ex (hc.at b0 b1) v1
  rw [get_f (by simp [hz]), get_bind e3, get_bind e4, get_t (decide_eq_true ⟨by omega, by omega⟩)]
  dsimp only
  obtain ⟨A, hA⟩ : ∃ A, A = SAir.mk a.Mine a.Fans (Sq.mk (a.Doors.n + 1) (fun k => (SDoor.mk (cond (Nat.blt k a.Doors.n) (a.Doors.f k).Road d.Road) (cond (Nat.blt k a.Doors.n) (a.Doors.f k).Other d.Other) (Sq.mk (cond (Nat.blt k a.Doors.n) (a.Doors.f k).Rests.n d.Rests.n) (fun j => (cond (Nat.blt k a.Doors.n) ((a.Doors.f k).Rests.f j) (d.Rests.f j))))))) := ⟨_, rfl⟩
  have aM : A.Mine = a.Mine := by rw [hA]
  have aF : A.Fans = a.Fans := by rw [hA]
  have aN : A.Doors.n = a.Doors.n + 1 := by rw [hA]
  have aD : ∀ k, A.Doors.f k = if k < a.Doors.n then a.Doors.f k else d := fun k => by rw [hA]; exact door_app
  have aL : A.Doors.f a.Doors.n = d := by rw [aD, if_neg (Nat.lt_irrefl _)]
  have EA : EqD A ⟨s0.Fans, ⟨a.Doors.n + 1, fun k => if k < a.Doors.n then s0.Doors.f k else 0⟩⟩ := by
    refine ⟨by rw [aF]; exact hfn, by omega, by rw [aF, aM]; exact hE.f, aN.symm, fun i hi => ?_⟩
    rw [aM, aD]
    dsimp only
    by_cases c : i < a.Doors.n
    · rw [if_pos c, if_pos c]; exact hE.d.f i c
    · rw [if_neg c, if_neg c]; exact ⟨⟨by omega, by omega, dO, dD, dn0, dn1⟩, by omega, by omega⟩
  have hmA : MineOK A.Mine := by rw [aM]; exact md.mine
  rw [← hA]
  obtain ⟨t, b3, e5, _, _, t1, t2, t3, t4⟩ := Codes_Setting_ex (hc.at l2 u2) A (by rw [aF]; omega) (by omega) (fun i hi => by have := (EA.d.f i hi).1.n1; omega)
  have zl : wr (((a.Doors.n + 1 : Nat) : Int) - 1) = (a.Doors.n : Int) := by rw [wr_ok (by omega) (by omega)]; omega
  rw [get_bind e5, zl, toNat_nat, blt_f (Nat.le_refl a.Doors.n)]
  simp only [cond_false]
  rw [get_t (decide_eq_true ⟨by omega, by omega⟩), get_t (decide_eq_true ⟨by omega, by omega⟩), wr_ok (x := (d.Rests.n : Int) - 1) (by omega) (by omega)]
  obtain ⟨v2, e6, _, k2⟩ := Mod_ex state ((d.Rests.n : Int) - 1) (by omega)
  have k2 := k2 (by omega)
  rw [get_bind e6, get_t (decide_eq_true ⟨by omega, by omega⟩), get_t (decide_eq_true ⟨by omega, by omega⟩), get_t (decide_eq_true ⟨by omega, by omega⟩), get_t (decide_eq_true ⟨by omega, by omega⟩), get_t (decide_eq_true ⟨by omega, by omega⟩), wr_ok (x := v2 + 1) (by omega) (by omega), dr]
  obtain ⟨v3, e7, _, k3⟩ := Mod_ex pressure 200000 (by omega)
  have k3 := k3 (by omega)
  obtain ⟨v4, e8, _, k4⟩ := Mod_ex flow 400 (by omega)
  have k4 := k4 (by omega)
  have hR : ∀ (T : Sq Int) (u : Int), T.n = t.Doors.n → -1 ≤ u → u < d.Rests.n → (∀ k, T.f k = if k = a.Doors.n then u else t.Doors.f k) → rightB A ⟨t.Fans, T⟩ = true := by
    intro T u hT u0 u1 hf
    refine EA.right hmA t1 (by dsimp only; omega) t3 fun i hi => ?_
    dsimp only
    rw [hf]
    by_cases c : i = a.Doors.n
    · rw [if_pos c, c, aL]; exact ⟨u0, u1⟩
    · rw [if_neg c]; exact t4 i hi
  have bq : ∀ (k : Nat) (u v : Int), cond (Nat.beq k a.Doors.n) u v = if k = a.Doors.n then u else v := fun k u v => by
    by_cases c : k = a.Doors.n
    · rw [beq_t c, if_pos c]; rfl
    · rw [beq_f c, if_neg c]; rfl
  have bq2 : ∀ (k : Nat) (u w v : Int), cond (Nat.beq k a.Doors.n) u (cond (Nat.beq k a.Doors.n) w v) = cond (Nat.beq k a.Doors.n) u v := fun k u w v => by
    cases Nat.beq k a.Doors.n <;> rfl
  have r1 := hR (lastS t.Doors a.Doors.n v2) v2 rfl (by omega) (by omega) (fun k => bq k _ _)
  have r2 := hR ⟨t.Doors.n, fun k => cond (Nat.beq k a.Doors.n) (v2 + 1) (cond (Nat.beq k a.Doors.n) v2 (t.Doors.f k))⟩ (v2 + 1) rfl (by omega) (by omega) (fun k => by dsimp only; rw [bq2]; exact bq k _ _)
  have r3 := hR ⟨t.Doors.n, fun k => cond (Nat.beq k a.Doors.n) (-1) (cond (Nat.beq k a.Doors.n) v2 (t.Doors.f k))⟩ (-1) rfl (by omega) (by omega) (fun k => by dsimp only; rw [bq2]; exact bq k _ _)
  have okd : RestOK (A.Doors.f a.Doors.n).Rests := by rw [aL]; exact dD.ok dn0 dn1
  obtain ⟨F1, F2, F3, f1, f2, f3, ⟨g1, g2, g3, g4, g5, g6⟩, g7⟩ := doors_any (T1 := SSetting.mk t.Fans (Sq.mk t.Doors.n (fun k => cond (Nat.beq k a.Doors.n) v2 (t.Doors.f k)))) r1 r2 r3 k1.1 (by rw [aM]; omega) (d3_of aN okd (by omega) (by rw [aL]; omega) v1.toNat (fun k => bq2 k _ _ _) (fun k => bq2 k _ _ _)) (v3 - 100000)
  have g8 := g7 (v4 - 200) (by omega) (by omega)
  have f1 : branch_Flow A (SSetting.mk t.Fans (Sq.mk t.Doors.n (fun k => cond (Nat.beq k a.Doors.n) v2 (t.Doors.f k)))) v1 (v3 - 100000) = some F1 := f1
  rw [get_bind e7, wr_ok (x := v3 - 100000) (by omega) (by omega), get_bind f1, get_bind f2, get_bind f3]
  have z4 : wr (v4 - 200) = v4 - 200 := wr_ok (by omega) (by omega)
  by_cases c1 : F1.Low > 0
  · rw [get_t (decide_eq_true c1), get_f (decide_eq_false (show ¬ F2.Low < F1.Low by have := g1 c1; omega))]
    by_cases c2 : F1.High < 0
    · rw [get_t (decide_eq_true c2), get_f (decide_eq_false (show ¬ F2.High > F1.High by have := g2 c2; omega)), get_f (decide_eq_false (show ¬ F3.Low > F1.Low by omega)), get_f (decide_eq_false (show ¬ F3.Low > F2.Low by omega)), get_f (decide_eq_false (show ¬ F3.High < F1.High by omega)), get_f (decide_eq_false (show ¬ F3.High < F2.High by omega)), get_bind e8, z4, get_bind (branch_Drop_v _ _ _ _), get_bind (branch_Drop_v _ _ _ _), get_t (decide_eq_true g8.1), get_t (decide_eq_true g8.2)]
      rfl
    · rw [get_f (decide_eq_false c2), get_f (decide_eq_false (show ¬ F3.Low > F1.Low by omega)), get_f (decide_eq_false (show ¬ F3.Low > F2.Low by omega)), get_f (decide_eq_false (show ¬ F3.High < F1.High by omega)), get_f (decide_eq_false (show ¬ F3.High < F2.High by omega)), get_bind e8, z4, get_bind (branch_Drop_v _ _ _ _), get_bind (branch_Drop_v _ _ _ _), get_t (decide_eq_true g8.1), get_t (decide_eq_true g8.2)]
      rfl
  · rw [get_f (decide_eq_false c1)]
    by_cases c2 : F1.High < 0
    · rw [get_t (decide_eq_true c2), get_f (decide_eq_false (show ¬ F2.High > F1.High by have := g2 c2; omega)), get_f (decide_eq_false (show ¬ F3.Low > F1.Low by omega)), get_f (decide_eq_false (show ¬ F3.Low > F2.Low by omega)), get_f (decide_eq_false (show ¬ F3.High < F1.High by omega)), get_f (decide_eq_false (show ¬ F3.High < F2.High by omega)), get_bind e8, z4, get_bind (branch_Drop_v _ _ _ _), get_bind (branch_Drop_v _ _ _ _), get_t (decide_eq_true g8.1), get_t (decide_eq_true g8.2)]
      rfl
    · rw [get_f (decide_eq_false c2), get_f (decide_eq_false (show ¬ F3.Low > F1.Low by omega)), get_f (decide_eq_false (show ¬ F3.Low > F2.Low by omega)), get_f (decide_eq_false (show ¬ F3.High < F1.High by omega)), get_f (decide_eq_false (show ¬ F3.High < F2.High by omega)), get_bind e8, z4, get_bind (branch_Drop_v _ _ _ _), get_bind (branch_Drop_v _ _ _ _), get_t (decide_eq_true g8.1), get_t (decide_eq_true g8.2)]
      rfl
theorem branchDoors_calls (codes : Sq Int) (hb : ∀ k, 0 ≤ codes.f k ∧ codes.f k ≤ 255) (door state pressure flow : Int) {w : World} {vs : Array Value} (hl : vs.size = 5)
    (hv : ∀ j, j < 5 → ∀ (M : Nat → Prop) (σ : Nat → Value) (V : Nat → Option Nat), (∀ g, ¬ M g) → VR w M σ V ((law09_BranchDoors_encC codes door state pressure flow).1.getD j .undef) (vs.getD j undef)) : Calls Try.prog 9 vs w fun e w' => e = .returned (.bool true) ∧ Below w.heap.size w w' :=
  law_told law09_BranchDoors_tells law09_BranchDoors_inj rfl (codes, door, state, pressure, flow) rfl (branchDoors_true codes hb door state pressure flow) hl hv
end Go.Proofs.Ytbmbhgkjpdpcjaa.Ab
