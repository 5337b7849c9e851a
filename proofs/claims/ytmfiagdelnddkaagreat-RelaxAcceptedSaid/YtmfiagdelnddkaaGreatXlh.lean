/- Stage 11: what is made is a state that fits. -/
import Derived.Test.YtmfiagdelnddkaaGreatXH
import Derived.Test.YtmfiagdelnddkaaGreatXlg
namespace Go.Proofs.YtmfiagdelnddkaaGreat.Ab
noncomputable section
open Go
def gW (l : Sq Int) (m : Int) (i : Nat) : Option Unit := if -m ≤ l.f i ∧ l.f i ≤ m then none else some ()
def ald (P : Sq ay) (p : Sq Int) (i : Nat) : Prop := (P.f i).Surface = true → p.f i = 0
def sumP (P : Sq ay) (R : Sq aB) (q : Sq Int) (i : Nat) : Prop := (P.f i).Surface = false → net R q i R.n = 0
def alm (a : SAir) (s : au) (x : dN) (j : Nat) : Prop := ((a.Mine.Roads.f j).Closed = true → x.Flows.f j = 0) ∧ ((a.Mine.Roads.f j).Closed = false →
  (cK a s j (x.Flows.f j)).1 ≤ x.Pressures.f (a.Mine.Roads.f j).From.toNat - x.Pressures.f (a.Mine.Roads.f j).To.toNat ∧ x.Pressures.f (a.Mine.Roads.f j).From.toNat - x.Pressures.f (a.Mine.Roads.f j).To.toNat ≤ (cK a s j (x.Flows.f j)).2)
open Classical in
def gP' (Q : Nat → Prop) (i : Nat) : Option Unit := if Q i then none else some ()
open Classical in
def ajP (a : SAir) (s : au) (x : dN) : Int :=
  if airE a ≠ 0 then airE a else if aZ a s = false then 21 else if x.Pressures.n ≠ a.Mine.Places.n then 11 else if x.Flows.n ≠ a.Mine.Roads.n then 11
  else if aR (gW x.Pressures 70368744177664) x.Pressures.n 0 ≠ none then 1 else if aR (gW x.Flows 1048576) x.Flows.n 0 ≠ none then 1
  else if (∀ i, i < a.Mine.Places.n → ald a.Mine.Places x.Pressures i) ∧ (∀ j, j < a.Mine.Roads.n → alm a s x j) ∧ ∀ i, i < a.Mine.Places.n → sumP a.Mine.Places a.Mine.Roads x.Flows i then 0 else 10
theorem ajS {l : Sq Int} {m : Int} (h : aR (gW l m) l.n 0 = none) : ∀ i, i < l.n → -m ≤ l.f i ∧ l.f i ≤ m := by
  intro i hi
  have := jf h i (Nat.zero_le _) (by omega)
  unfold gW at this
  split at this
  · assumption
  · cases this
theorem MdD.zero {a : SAir} {s : au} {x : dN} (h : MdD a s x) : ajP a s x = 0 := by
  obtain ⟨sh, s0, _, _, hP, hp, hq, hE, _⟩ := h.e
  have hqn := hq.qn
  have hpn := hp.nn
  unfold ajP
  rw [if_neg (not_not_intro (hE.air h.mine)), if_neg (by rw [h.right]; simp), if_neg (not_not_intro hpn), if_neg (not_not_intro hqn), dx fun i _ hi => ?_, if_neg (not_not_intro rfl), dx fun i _ hi => ?_, if_neg (not_not_intro rfl), if_pos]
  · refine ⟨fun i hi c => ?_, fun j hj => ⟨fun c => ?_, fun _ => h.fits hj⟩, fun i hi c => ?_⟩
    · rw [(hP.f i hi).1] at c
      exact hp.z i (Nat.le_of_ble_eq_true c)
    · exact (hq.r j hj).z c
    · rw [(hP.f i hi).1] at c
      refine hq.e i ?_ hi
      by_cases d : i < sh
      · rw [yO d] at c; cases c
      · omega
  · unfold gW
    have := (hq.r i (by omega)).q0
    have := (hq.r i (by omega)).q1
    rw [if_pos (by omega)]
  · unfold gW
    have := hp.f i (by omega)
    rw [if_pos (by omega)]
theorem MdD.fit {a : SAir} {s : au} {x : dN} (h : MdD a s x) : aia a s x.Pressures x.Flows := by
  have z := h.zero
  unfold ajP at z
  split at z
  · rename_i c; exact absurd z c
  · split at z
    · cases z
    · split at z
      · cases z
      · split at z
        · cases z
        · rename_i h4
          split at z
          · cases z
          · split at z
            · cases z
            · rename_i h6
              have qb := ajS (Classical.not_not.1 h6)
              split at z
              · rename_i q
                exact ⟨fun i hi e => q.1 i hi e, fun j hj e => (q.2.1 j hj).2 e, fun j hj e => (q.2.1 j hj).1 e, fun j hj => qb j (by omega), fun i hi e => q.2.2 i hi e⟩
              · cases z
end
end Go.Proofs.YtmfiagdelnddkaaGreat.Ab
