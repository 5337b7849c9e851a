/- A part of the proof, what is needed of it. -/
import Derived.Test.YtimkpfnbkclclaaGreatPl16
import Derived.Test.YtimkpfnbkclclaaGreatPl23
namespace Go.Proofs.YtimkpfnbkclclaaGreat.Ab
open Go
theorem aoH {r : Sq Int} (ok : akl r) {s0 s : Int} (h0 : 0 ≤ s0) (h1 : s0 < r.n) (h : s = s0 ∨ s = -1) : (rsS r s).Low ≤ (rsS r s0).Low ∧ (rsS r s0).Low ≤ (rsS r s).High := by
  have e : rsS r s0 = ⟨r.f s0.toNat, r.f s0.toNat⟩ := if_pos h0
  rcases h with rfl | rfl
  · rw [e]; exact ⟨Int.le_refl _, Int.le_refl _⟩
  · have e1 : rsS r (-1) = ⟨r.f (r.n - 1), r.f 0⟩ := if_neg (by omega)
    have n0 := ok.n0
    have a := ok.dec (r.n - 1 - s0.toNat) s0.toNat (by omega)
    have b := ok.dec s0.toNat 0 (by omega)
    rw [show s0.toNat + (r.n - 1 - s0.toNat) = r.n - 1 by omega] at a
    rw [Nat.zero_add] at b
    rw [e, e1]
    exact ⟨a, b⟩
theorem aoL {f : SFan} (ok : okC f.Curve) {s0 s : Int} (h0 : 0 ≤ s0) (h1 : s0 ≤ 2) (h : s = s0 ∨ s = -1) (x : Int) : (stS f s x).Low ≤ (stS f s0 x).Low ∧ (stS f s0 x).Low ≤ (stS f s x).High := by
  have a := akK ok f.Back x
  have b := akK ok (!f.Back) x
  rcases h with rfl | rfl
  · refine ⟨Int.le_refl _, ?_⟩
    unfold stS
    split
    · exact Int.le_refl _
    · rw [show (if s = 1 then ai3 f.Curve f.Back x else if s = 2 then ai3 f.Curve (!f.Back) x else _) = if s = 1 then ai3 f.Curve f.Back x else ai3 f.Curve (!f.Back) x from by
        split
        · rfl
        · rw [if_pos (by omega)]]
      split <;> omega
  · have e : stS f (-1) x = ⟨minI (minI 0 (ai3 f.Curve f.Back x).Low) (ai3 f.Curve (!f.Back) x).Low, maxI (maxI 0 (ai3 f.Curve f.Back x).High) (ai3 f.Curve (!f.Back) x).High⟩ := by
      unfold stS
      rw [if_neg (by omega), if_neg (by omega), if_neg (by omega)]
    rw [e]
    have l : (stS f s0 x).Low = 0 ∨ (stS f s0 x).Low = (ai3 f.Curve f.Back x).Low ∨ (stS f s0 x).Low = (ai3 f.Curve (!f.Back) x).Low := by
      unfold stS
      by_cases c0 : s0 = 0
      · rw [if_pos c0]; exact .inl rfl
      · rw [if_neg c0]
        by_cases c1 : s0 = 1
        · rw [if_pos c1]; exact .inr (.inl rfl)
        · rw [if_neg c1, if_pos (by omega)]; exact .inr (.inr rfl)
    dsimp only
    unfold minI maxI
    constructor
    all_goals (repeat' split)
    all_goals omega
theorem anJ {D : Sq qD} {s0 s : Sq Int} {nr : Nat} (h : DsD D s0 nr) (hd : DbD s0 s) (road : Int) {b : Int × Int} {c : Int} (h1 : b.1 ≤ c) (h2 : c ≤ b.2) : ∀ k, k ≤ D.n → (rsum D s road b k).1 ≤ (rsum D s0 road (c, 0) k).1 ∧ (rsum D s0 road (c, 0) k).1 ≤ (rsum D s road b k).2 := by
  have hn := h.n
  intro k
  induction k with
  | zero => intro _; exact ⟨h1, h2⟩
  | succ k ih =>
    intro hk
    have i := ih (by omega)
    obtain ⟨d1, d2, d3⟩ := h.f k (by omega)
    have q := aoH (d1.c.ok d1.n0 d1.n1) d2 d3 (hd.f k (by omega))
    unfold rsum
    split
    · dsimp only; omega
    · exact i
theorem anx {F : Sq SFan} {s0 s : Sq Int} {nr : Nat} (h : FsD F s0 nr) (hd : DbD s0 s) (road x : Int) (b b' : Int × Int) : ∀ k, k ≤ F.n → (fsum F s road x b k).1 - b.1 ≤ (fsum F s0 road x b' k).2 - b'.2 ∧ (fsum F s0 road x b' k).2 - b'.2 ≤ (fsum F s road x b k).2 - b.2 := by
  have hn := h.n
  intro k
  induction k with
  | zero => intro _; show b.1 - b.1 ≤ b'.2 - b'.2 ∧ b'.2 - b'.2 ≤ b.2 - b.2; omega
  | succ k ih =>
    intro hk
    have i := ih (by omega)
    obtain ⟨d1, d2, d3⟩ := h.f k (by omega)
    have q := aoL (d1.c.ok d1.n) d2 d3 (hd.f k (by omega)) x
    unfold fsum
    split
    · dsimp only; omega
    · exact i
theorem apV {lo hi B x : Int} (h1 : lo ≤ B) (h2 : B ≤ hi) : (sqS lo hi x).1 ≤ sgn B x ∧ sgn B x ≤ (sqS lo hi x).2 := by
  have hx : 0 ≤ x * x := by
    rcases Int.le_total 0 x with h | h
    · exact Int.mul_nonneg h h
    · exact Int.mul_nonneg_of_nonpos_of_nonpos h h
  have a := Int.mul_le_mul_of_nonneg_right h1 hx
  have b := Int.mul_le_mul_of_nonneg_right h2 hx
  unfold sqS sgn
  split
  · dsimp only; omega
  · dsimp only; omega
theorem MdD.fits {a : SAir} {s : qz} {x : yV} (h : MdD a s x) {j : Nat} (hj : j < a.Mine.Roads.n) :
    (aiS a s j (x.Flows.f j)).1 ≤ x.Pressures.f (a.Mine.Roads.f j).From.toNat - x.Pressures.f (a.Mine.Roads.f j).To.toNat ∧ x.Pressures.f (a.Mine.Roads.f j).From.toNat - x.Pressures.f (a.Mine.Roads.f j).To.toNat ≤ (aiS a s j (x.Flows.f j)).2 := by
  obtain ⟨sh, s0, _, _, _, _, _, hE, dF, dD, hL⟩ := h.e
  obtain ⟨re, u, v, r0, r1, u0, _, v0, _, e⟩ := (hL j hj).e
  have m1 := anJ hE.d dD j (b := ((a.Mine.Roads.f j).Rest.Low, (a.Mine.Roads.f j).Rest.High)) (c := re) r0 r1 a.Doors.n (Nat.le_refl _)
  have m2 := apV (x := x.Flows.f j) m1.1 m1.2
  unfold aiS
  dsimp only
  rw [e]
  dsimp only
  generalize rsum a.Doors s.Doors j ((a.Mine.Roads.f j).Rest.Low, (a.Mine.Roads.f j).Rest.High) a.Doors.n = b at m2 ⊢
  generalize sgn (rsum a.Doors s0.Doors j (re, 0) a.Doors.n).1 (x.Flows.f j) = g at m2 ⊢
  generalize x.Pressures.f (a.Mine.Roads.f j).From.toNat - x.Pressures.f (a.Mine.Roads.f j).To.toNat = d
  have m3 := anx hE.f dF j (x.Flows.f j) ((sqS b.1 b.2 (x.Flows.f j)).1 - ((fsum a.Fans s0.Fans j (x.Flows.f j) (0, g - d) a.Fans.n).2 + v), (sqS b.1 b.2 (x.Flows.f j)).2 - ((fsum a.Fans s0.Fans j (x.Flows.f j) (0, g - d) a.Fans.n).2 - u)) (0, g - d) a.Fans.n (Nat.le_refl _)
  dsimp only at m3
  omega
end Go.Proofs.YtimkpfnbkclclaaGreat.Ab
namespace Go.Proofs.YtimkpfnbkclclaaGreat.Ab
noncomputable section
open Go
def gW (l : Sq Int) (m : Int) (i : Nat) : Option Unit := if -m ≤ l.f i ∧ l.f i ≤ m then none else some ()
def aqb (P : Sq qA) (p : Sq Int) (i : Nat) : Prop := (P.f i).Surface = true → p.f i = 0
def sumP (P : Sq qA) (R : Sq qC) (q : Sq Int) (i : Nat) : Prop := (P.f i).Surface = false → net R q i R.n = 0
def aqf (a : SAir) (s : qz) (x : yV) (j : Nat) : Prop := ((a.Mine.Roads.f j).Closed = true → x.Flows.f j = 0) ∧ ((a.Mine.Roads.f j).Closed = false →
  (aiS a s j (x.Flows.f j)).1 ≤ x.Pressures.f (a.Mine.Roads.f j).From.toNat - x.Pressures.f (a.Mine.Roads.f j).To.toNat ∧ x.Pressures.f (a.Mine.Roads.f j).From.toNat - x.Pressures.f (a.Mine.Roads.f j).To.toNat ≤ (aiS a s j (x.Flows.f j)).2)
open Classical in
def apj (a : SAir) (s : qz) (x : yV) : Int :=
  if airE a ≠ 0 then airE a else if aiR a s = false then 21 else if x.Pressures.n ≠ a.Mine.Places.n then 11 else if x.Flows.n ≠ a.Mine.Roads.n then 11
  else if bn (gW x.Pressures 70368744177664) x.Pressures.n 0 ≠ none then 1 else if bn (gW x.Flows 1048576) x.Flows.n 0 ≠ none then 1
  else if (∀ i, i < a.Mine.Places.n → aqb a.Mine.Places x.Pressures i) ∧ (∀ j, j < a.Mine.Roads.n → aqf a s x j) ∧ ∀ i, i < a.Mine.Places.n → sumP a.Mine.Places a.Mine.Roads x.Flows i then 0 else 10
theorem apl {l : Sq Int} {m : Int} (h : bn (gW l m) l.n 0 = none) : ∀ i, i < l.n → -m ≤ l.f i ∧ l.f i ≤ m := by
  intro i hi
  have := oh h i (Nat.zero_le _) (by omega)
  unfold gW at this
  split at this
  · assumption
  · cases this
theorem MdD.zero {a : SAir} {s : qz} {x : yV} (h : MdD a s x) : apj a s x = 0 := by
  obtain ⟨sh, s0, _, _, hP, hp, hq, hE, _⟩ := h.e
  have hqn := hq.qn
  have hpn := hp.nn
  unfold apj
  rw [if_neg (not_not_intro (hE.air h.mine)), if_neg (by rw [h.right]; simp), if_neg (not_not_intro hpn), if_neg (not_not_intro hqn), oL fun i _ hi => ?_, if_neg (not_not_intro rfl), oL fun i _ hi => ?_, if_neg (not_not_intro rfl), if_pos]
  · refine ⟨fun i hi c => ?_, fun j hj => ⟨fun c => ?_, fun _ => h.fits hj⟩, fun i hi c => ?_⟩
    · rw [(hP.f i hi).1] at c
      exact hp.z i (Nat.le_of_ble_eq_true c)
    · exact (hq.r j hj).z c
    · rw [(hP.f i hi).1] at c
      refine hq.e i ?_ hi
      by_cases d : i < sh
      · rw [ajf d] at c; cases c
      · omega
  · unfold gW
    have := (hq.r i (by omega)).q0
    have := (hq.r i (by omega)).q1
    rw [if_pos (by omega)]
  · unfold gW
    have := hp.f i (by omega)
    rw [if_pos (by omega)]
theorem MdD.fit {a : SAir} {s : qz} {x : yV} (h : MdD a s x) : aot a s x.Pressures x.Flows := by
  have z := h.zero
  unfold apj at z
  split at z
  · rename_i c; exact absurd z c
  · split at z
    · cases z
    · split at z
      · cases z
      · split at z
        · cases z
        · rename_i h4
          split at z
          · cases z
          · split at z
            · cases z
            · rename_i h6
              have qb := apl (Classical.not_not.1 h6)
              split at z
              · rename_i q
                exact ⟨fun i hi e => q.1 i hi e, fun j hj e => (q.2.1 j hj).2 e, fun j hj e => (q.2.1 j hj).1 e, fun j hj => qb j (by omega), fun i hi e => q.2.2 i hi e⟩
              · cases z
end
end Go.Proofs.YtimkpfnbkclclaaGreat.Ab
